"""What trees consist of: their pieces, symbols and levels."""

from stoodthere.orders import in_order
from stoodthere.pieces import depths_of, ends_of


def pieces_of(trees):
    """Returns the tuple of the different pieces of trees, in order."""
    return in_order([tree[node:end] for tree in trees for node, end in enumerate(ends_of(tree))])


def symbols_of(trees):
    """Returns the ascending tuple of all symbols in trees."""
    return tuple(sorted({symbol for tree in trees for symbol in tree}))


def levels_of(tree):
    """Returns how many levels the tree has."""
    return max(depths_of(tree)) + 1
