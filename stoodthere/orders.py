"""The order of trees."""

from stoodthere.basics import need
from stoodthere.treekinds import is_tree


def order_key(tree):
    """What the order of trees goes by."""
    return (len(tree), tree)


def is_ahead(tree, other):
    """Returns whether tree is ahead of other."""
    need(is_tree(other), "other")
    return order_key(tree) < order_key(other)


def least_of(trees):
    """Returns the least of trees, or None if there are none."""
    return min(trees, key=order_key, default=None)


def in_order(trees):
    """Returns the tuple of the different ones of trees, in order."""
    different = {tree: True for tree in trees}
    return tuple(sorted(list(different), key=order_key))
