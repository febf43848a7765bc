"""The kinds of trees by a book."""

from stoodthere.basics import need
from stoodthere.kindmakers import KindMaker
from stoodthere.treekinds import is_tree, is_word


def kind_from(book, word, kinds):
    """Returns the kind of the trees with this word in the root, and parts of these kinds."""
    need(is_word(word), "word")
    return KindMaker(book).kind_by(word, kinds)


def kind_of(book, tree):
    """Returns the kind of tree."""
    need(is_tree(tree), "tree")
    return KindMaker(book).kind_in(tree)


def kinds_of(book, tree):
    """Returns a tuple of the kinds of the pieces at all nodes of tree."""
    need(is_tree(tree), "tree")
    return tuple(KindMaker(book).kinds_in(tree))
