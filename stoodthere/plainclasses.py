"""The classes of sentences."""

from stoodthere.basics import need
from stoodthere.fulljoinings import full_joining
from stoodthere.treekinds import is_trees


def plain_classes(book, sentences):
    """Returns the classes of sentences, by their least pieces, each the tuple of its pieces in order."""
    need(is_trees(sentences), "sentences")
    return full_joining(book, sentences).piece_classes()
