"""All joins of sentences."""

from stoodthere.basics import need
from stoodthere.fulljoinings import full_joining
from stoodthere.treekinds import is_trees


def joins_of(book, sentences):
    """Returns joins of sentences, made one after the other, behind which no further join can be made."""
    need(is_trees(sentences), "sentences")
    return full_joining(book, sentences).made_joins()
