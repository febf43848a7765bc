"""To which trees joins lead."""

from stoodthere.basics import need
from stoodthere.joinchecker import usable_joining
from stoodthere.making import names_at_nodes
from stoodthere.treekinds import is_tree, is_trees


def classes_of_tree(joining, tree):
    """A dict that has the numbers of the classes so far of which tree is."""
    classes = joining.class_row()
    rules = {}
    for number, piece in enumerate(joining.pieces):
        parts = tuple([classes[part] for part in joining.part_rows[number]])
        rules[(classes[number], piece[0][0], parts)] = True
    return names_at_nodes(list(rules), tree)[0]


def is_led(book, given, joins, tree):
    """Returns whether joins lead to tree."""
    need(is_trees(given), "given")
    joining = usable_joining(book, given, joins)
    need(is_tree(tree), "tree")
    made = classes_of_tree(joining, tree)
    classes = joining.class_row()
    return any([classes[top] in made for top in joining.tops])


def classes_making(book, given, joins, tree):
    """Returns the ascending tuple of the numbers of the classes so far of which tree is."""
    need(is_trees(given), "given")
    joining = usable_joining(book, given, joins)
    need(is_tree(tree), "tree")
    return tuple(sorted(classes_of_tree(joining, tree)))
