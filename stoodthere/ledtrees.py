"""To which trees joins lead."""

from stoodthere.basics import need
from stoodthere.joinchecker import usable_joining
from stoodthere.making import names_making, takes
from stoodthere.treekinds import is_tree, is_trees


def is_led(book, given, joins, tree):
    """Returns whether joins lead to tree."""
    need(is_trees(given), "given")
    joining = usable_joining(book, given, joins)
    need(is_tree(tree), "tree")
    return takes(joining.class_grammar(), tree)


def classes_making(book, given, joins, tree):
    """Returns the ascending tuple of the numbers of the classes so far of which tree is."""
    need(is_trees(given), "given")
    joining = usable_joining(book, given, joins)
    need(is_tree(tree), "tree")
    return names_making(joining.class_grammar(), tree)
