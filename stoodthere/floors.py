"""Floors: sheets of numbers that tell that no tree of a lot is nearer to a tree."""

from stoodthere.basics import need
from stoodthere.leasttrees import least_trees
from stoodthere.pieces import ends_of, part_nodes
from stoodthere.treekinds import is_tree


def added(pair, pairs):
    """The pair with all of pairs added to it, entry by entry."""
    return (pair[0] + sum([one for one, _ in pairs]), pair[1] + sum([two for _, two in pairs]))


def most_for_rule(rule, z):
    """What the first part of a sheet may tell at most for the result of rule."""
    return added((1, 1), [z[part] for part in rule[2]])


def most_at_node(rule, symbol, size, z, lower):
    """What the second part of a sheet may tell at most, by rule, at a node with this symbol.

    size is how many symbols the piece has, z the first part of the sheet, and lower are the rows of
    the second part at the nodes of the piece's parts.
    """
    _, word, parts = rule
    if symbol == (word, len(parts)):
        return added((0, 1), [row[part] for row, part in zip(lower, parts)])
    return added((size + 1, 1), [z[part] for part in parts])


def floors_of(driven, tree):
    """Returns floors that tell the price of the best mend of tree, and how many symbols that has."""
    need(is_tree(tree), "tree")
    z = tuple([(len(least), len(least)) for least in least_trees(driven)])
    ends = ends_of(tree)
    rows = part_nodes(tree)
    h = [()] * len(tree)
    for node in reversed(range(len(tree))):
        lower = [h[part] for part in rows[node]]
        floor_row = [None] * driven[0]
        for rule in driven[2]:
            most = most_at_node(rule, tree[node], ends[node] - node, z, lower)
            known = floor_row[rule[0]]
            floor_row[rule[0]] = most if known is None else min(most, known)
        h[node] = tuple(floor_row)
    return (z, tuple(h))
