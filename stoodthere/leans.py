"""Few sentences with the same closure."""

from stoodthere.basics import need
from stoodthere.fulljoinings import closure_grammar
from stoodthere.making import takes
from stoodthere.treekinds import is_trees


def lean_of(book, sentences):
    """Returns the sentences that stay if each one, from the last on, is left out where the others bring it."""
    need(is_trees(sentences), "sentences")
    kept = sentences
    for tree in reversed(sentences):
        others = tuple([other for other in kept if other != tree])
        if takes(closure_grammar(book, others), tree):
            kept = others
    return kept
