"""Joins as papers that the closure of trees has a tree."""

from stoodthere.basics import need
from stoodthere.fulljoinings import full_joining
from stoodthere.joinchecker import usable_joining
from stoodthere.making import takes
from stoodthere.treekinds import is_tree, is_trees


def join_paper(book, given, tree):
    """Returns joins of given that lead to tree, or None if the closure of given does not have it."""
    need(is_trees(given), "given")
    need(is_tree(tree), "tree")
    joining = full_joining(book, given)
    return joining.made_joins() if takes(joining.class_grammar(), tree) else None


def are_enough(joining, steps, tree):
    """Whether these steps, made anew and one after the other, are joins that lead to tree."""
    joining.start_anew()
    for word, one, two, part in steps:
        ends = joining.ends_by(word, one, two, part)
        if ends is None or joining.are_joined(ends[0], ends[1]):
            return False
        joining.unite(ends[0], ends[1])
    return takes(joining.class_grammar(), tree)


def short_joins(book, given, joins, tree):
    """Returns the joins that stay if each one, from the last on, is left out where the others are enough."""
    need(is_trees(given), "given")
    joining = usable_joining(book, given, joins)
    need(is_tree(tree) and takes(joining.class_grammar(), tree), "tree")
    numbers = joining.number_by_piece
    steps = [(word, numbers[one], numbers[two], part) for word, one, two, part in joins]
    kept = list(range(len(steps)))
    for k in reversed(range(len(steps))):
        others = [other for other in kept if other != k]
        if are_enough(joining, [steps[other] for other in others], tree):
            kept = others
    return tuple([joins[k] for k in kept])
