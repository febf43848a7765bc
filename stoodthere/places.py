"""Places of pieces in trees."""

from stoodthere.basics import is_node, need
from stoodthere.pieces import end_of
from stoodthere.treekinds import is_tree


def place_of(tree, node):
    """Returns the place of node in tree, a pair (front, back)."""
    need(is_node(node, tree), "node")
    return (tree[:node], tree[end_of(tree, node):])


def put_at(place, piece):
    """Returns the tree that comes when piece is put at place."""
    need(is_tree(piece), "piece")
    front, back = place
    return front + piece + back
