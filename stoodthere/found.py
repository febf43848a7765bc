"""The found grammar of sentences."""

from stoodthere.basics import need
from stoodthere.fulljoinings import closure_grammar
from stoodthere.treekinds import is_trees
from stoodthere.trims import plain_of


def grammar_of(book, sentences):
    """Returns the found grammar of sentences."""
    need(is_trees(sentences), "sentences")
    return plain_of(closure_grammar(book, sentences))
