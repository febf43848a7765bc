"""Leaves of trees, what two trees share, and which trees fit a pattern."""

from stoodthere.basics import need
from stoodthere.pieces import ends_of, part_nodes
from stoodthere.treekinds import HOLE, SILENT, is_tree


def leaves_of(tree):
    """Returns the tuple of the leaves of tree."""
    return tuple([word for word, many in tree if many == 0 and word != SILENT])


def shared_count(tree, other):
    """How many symbols two trees share, without any check."""
    rows = part_nodes(tree)
    other_rows = part_nodes(other)
    shared = 0
    pairs = [(0, 0)]
    while pairs:
        node, other_node = pairs.pop()
        if tree[node] == other[other_node]:
            shared += 1
            pairs.extend(list(zip(rows[node], other_rows[other_node])))
    return shared


def shared_of(tree, other):
    """Returns how many symbols the two trees share."""
    need(is_tree(other), "other")
    return shared_count(tree, other)


def price_of(tree, other):
    """Returns the price of the two trees."""
    need(is_tree(other), "other")
    return len(tree) + len(other) - 2 * shared_count(tree, other)


def holes_of(pattern):
    """Returns the ascending tuple of the nodes of the holes."""
    return tuple([node for node, entry in enumerate(pattern) if entry == HOLE])


def fits(pattern, tree):
    """Returns whether tree fits pattern."""
    need(is_tree(tree), "tree")
    ends = ends_of(tree)
    node = 0
    for entry in pattern:
        if entry == HOLE:
            node = ends[node]
        elif entry == tree[node]:
            node += 1
        else:
            return False
    return True
