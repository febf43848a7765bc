"""The one name of a driven grammar that makes a tree."""

from stoodthere.basics import need
from stoodthere.making import names_at_nodes
from stoodthere.treekinds import is_tree


def name_of(driven, tree):
    """Returns the name that makes tree, or None."""
    need(is_tree(tree), "tree")
    made = names_at_nodes(driven[2], tree)[0]
    return list(made)[0] if made else None


def unmade_in(driven, tree):
    """Returns the ascending tuple of the nodes of tree whose pieces no name makes."""
    need(is_tree(tree), "tree")
    return tuple([node for node, made in enumerate(names_at_nodes(driven[2], tree)) if not made])
