"""One exchange of pieces."""

from stoodthere.basics import is_node, need
from stoodthere.kindmakers import KindMaker
from stoodthere.pieces import end_of
from stoodthere.treekinds import is_tree


def has_same_place(one, two, node):
    """Whether node is a node of two as it is of one, with the same place there."""
    # No tree begins with a whole other one: with the same front, node is one of two.
    return one[:node] == two[:node] and one[end_of(one, node):] == two[end_of(two, node):]


def has_same_piece(tree, node, other, place):
    """Whether tree has at node the piece that other has at place."""
    return tree[node:end_of(tree, node)] == other[place:end_of(other, place)]


def put_over(tree, node, other, place):
    """The tree with, at node, the piece that other has at place."""
    return tree[:node] + other[place:end_of(other, place)] + tree[end_of(tree, node):]


def has_same_kind(maker, one, two, node):
    """Whether the pieces of one and two at node are of one kind."""
    piece = one[node:end_of(one, node)]
    return maker.kind_in(piece) == maker.kind_in(two[node:end_of(two, node)])


def exchanged(book, one, two, node, third, place):
    """Returns the fourth of this exchange, or None if it is no exchange."""
    need(is_tree(one), "one")
    need(is_tree(two), "two")
    need(is_node(node, one), "node")
    need(is_tree(third), "third")
    need(is_node(place, third), "place")
    if not has_same_place(one, two, node) or not has_same_piece(third, place, one, node):
        return None
    if not has_same_kind(KindMaker(book), one, two, node):
        return None
    return put_over(third, place, two, node)
