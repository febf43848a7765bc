"""Pieces of one tree: where they end, what they are, and putting others instead."""

from stoodthere.basics import is_node, need
from stoodthere.treekinds import MOST_PARTS, SILENT, are_trees, is_tree


def ends_of(tree):
    """For each node, the number of the first symbol behind the piece there."""
    ends = [0] * len(tree)
    for node in reversed(range(len(tree))):
        end = node + 1
        for _ in range(tree[node][1]):
            end = ends[end]
        ends[node] = end
    return tuple(ends)


def part_nodes(tree):
    """For each node, the tuple of the nodes at which the parts of the piece there begin."""
    ends = ends_of(tree)
    rows = []
    for node, (_, many) in enumerate(tree):
        begins = []
        begin = node + 1
        for _ in range(many):
            begins.append(begin)
            begin = ends[begin]
        rows.append(tuple(begins))
    return rows


def depths_of(tree):
    """For each node, how many symbols are above it on the way to the root."""
    depths = []
    missing = []
    for _, many in tree:
        depths.append(len(missing))
        if many > 0:
            missing.append(many)
            continue
        while missing and missing[-1] == 1:
            missing.pop()
        if missing:
            missing[-1] -= 1
    return depths


def end_of(tree, node):
    """The number of the first symbol behind the piece at node."""
    end = node
    missing = 1
    while missing > 0:
        missing += tree[end][1] - 1
        end += 1
    return end


def whole_of(word, parts):
    """The tree with this word and these parts, without any check."""
    symbols = [(word, len(parts))]
    for part in parts:
        symbols.extend(part)
    return tuple(symbols)


def piece_at(tree, node):
    """Returns the piece of tree at node."""
    need(is_node(node, tree), "node")
    return tree[node:end_of(tree, node)]


def with_piece(tree, node, piece):
    """Returns the tree that has piece instead of its piece at node."""
    need(is_node(node, tree), "node")
    need(is_tree(piece), "piece")
    return tree[:node] + piece + tree[end_of(tree, node):]


def parts_of(tree):
    """Returns the tuple of the parts of tree."""
    return tuple([tree[node:end_of(tree, node)] for node in part_nodes(tree)[0]])


def tree_of(word, parts):
    """Returns the tree with this word in its root and with these parts."""
    need(are_trees(parts) and len(parts) <= MOST_PARTS and (word != SILENT or not parts), "parts")
    return whole_of(word, parts)
