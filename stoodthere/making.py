"""Which names of a grammar make a tree."""

from stoodthere.basics import need
from stoodthere.pieces import part_nodes
from stoodthere.treekinds import is_tree


def names_at_nodes(rules, tree):
    """For each node of tree a dict that has the results by which rules make the piece there."""
    by_symbol = {}
    for result, word, parts in rules:
        by_symbol.setdefault((word, len(parts)), []).append((result, parts))
    rows = part_nodes(tree)
    made = [{} for _ in tree]
    for node in reversed(range(len(tree))):
        lower = [made[part] for part in rows[node]]
        for result, parts in by_symbol.get(tree[node], []):
            if all([name in names for name, names in zip(parts, lower)]):
                made[node][result] = True
    return made


def names_making(grammar, tree):
    """Returns the ascending tuple of the names that make tree."""
    need(is_tree(tree), "tree")
    return tuple(sorted(names_at_nodes(grammar[2], tree)[0]))


def takes(grammar, tree):
    """Returns whether the lot of grammar has tree."""
    need(is_tree(tree), "tree")
    made = names_at_nodes(grammar[2], tree)[0]
    return any([start in made for start in grammar[1]])
