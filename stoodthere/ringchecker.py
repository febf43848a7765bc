"""The checker of rings."""

from stoodthere.basics import is_node, is_number
from stoodthere.errors import InvalidPaper
from stoodthere.making import names_at_nodes, takes
from stoodthere.pieces import end_of
from stoodthere.treekinds import is_tree


def fault_of_ring(driven, thing):
    """The word for what is wrong with thing as a ring, or None."""
    if not isinstance(thing, tuple) or len(thing) != 3:
        return "shape"
    tree, node, inner = thing
    if not is_tree(tree) or not takes(driven, tree):
        return "tree"
    if not is_node(node, tree):
        return "node"
    if not is_number(inner) or not node < inner < end_of(tree, node):
        return "inner"
    made = names_at_nodes(driven[2], tree)
    return None if made[node] == made[inner] else "name"


def lets_ring(driven, thing):
    """Returns the name that makes the two pieces of the ring; raises InvalidPaper if thing is no ring."""
    fault = fault_of_ring(driven, thing)
    if fault is not None:
        raise InvalidPaper(fault, -1)
    tree, node, _ = thing
    return list(names_at_nodes(driven[2], tree)[node])[0]
