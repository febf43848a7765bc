"""Endless lots, and pumping what makes them endless."""

from stoodthere.basics import is_node, is_number, need
from stoodthere.leastplaces import EMPTY_PLACE, PlaceMaker, size_of
from stoodthere.pieces import end_of
from stoodthere.trims import trimmed


def ring_of(driven):
    """Returns None if the lot is finite, else a ring: a tree of the lot and two nodes of it, one below the other."""
    trim = trimmed(driven)
    maker = PlaceMaker(trim)
    homes = maker.homes()
    rings = []
    for name in range(trim[0]):
        # The least place below a name at which it makes a piece again.
        inner = maker.places_from(maker.places_below(name, EMPTY_PLACE)).get(name)
        if inner is not None:
            size = size_of(homes[name]) + size_of(inner) + len(maker.least[name])
            rings.append((size, name, inner))
    if not rings:
        return None
    _, name, inner = min(rings)
    outer = homes[name]
    tree = outer[0] + inner[0] + maker.least[name] + inner[1] + outer[1]
    return (tree, len(outer[0]), len(outer[0]) + len(inner[0]))


def pumped(tree, node, inner, times):
    """Returns tree with what stands around inner in the piece at node repeated so many times there."""
    need(is_node(node, tree), "node")
    end = end_of(tree, node)
    need(is_number(inner) and node < inner < end, "inner")
    need(is_number(times), "times")
    inner_end = end_of(tree, inner)
    piece = tree[node:inner] * times + tree[inner:inner_end] + tree[inner_end:end] * times
    return tree[:node] + piece + tree[end:]
