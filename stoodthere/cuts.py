"""Cutting trees at a depth."""

from stoodthere.basics import is_number, need
from stoodthere.pieces import depths_of

STUB = ("_", 0)


def cut_at(tree, depth):
    """The tree cut at depth, without any check."""
    kept = []
    for node, above in enumerate(depths_of(tree)):
        if above < depth:
            kept.append(tree[node])
        elif above == depth:
            kept.append(STUB)
    return tuple(kept)


def cut(tree, depth):
    """Returns the tree cut at depth; tree may also be a tuple that cut returned."""
    need(is_number(depth), "depth")
    return cut_at(tree, depth)
