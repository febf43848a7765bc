"""Which names of a grammar make a tree."""

from stoodthere.basics import need
from stoodthere.pieces import part_nodes
from stoodthere.treekinds import is_tree


def rules_by_symbol(rules):
    """A dict with the list of rules for each symbol."""
    rows = {}
    for rule in rules:
        rows.setdefault((rule[1], len(rule[2])), []).append(rule)
    return rows


def names_by_symbols(by_symbol, tree):
    """What names_at_nodes tells, from the rules for each symbol."""
    rows = part_nodes(tree)
    made = [{} for _ in tree]
    for node in reversed(range(len(tree))):
        lower = [made[part] for part in rows[node]]
        for result, _, parts in by_symbol.get(tree[node], []):
            if all([name in names for name, names in zip(parts, lower)]):
                made[node][result] = True
    return made


def names_at_nodes(rules, tree):
    """For each node of tree a dict that has the results by which rules make the piece there."""
    return names_by_symbols(rules_by_symbol(rules), tree)


def first_taken(grammar, trees):
    """The first one of trees that the lot of grammar has, or None."""
    by_symbol = rules_by_symbol(grammar[2])
    for tree in trees:
        made = names_by_symbols(by_symbol, tree)[0]
        if any([start in made for start in grammar[1]]):
            return tree
    return None


def names_making(grammar, tree):
    """Returns the ascending tuple of the names that make tree."""
    need(is_tree(tree), "tree")
    return tuple(sorted(names_at_nodes(grammar[2], tree)[0]))


def takes(grammar, tree):
    """Returns whether the lot of grammar has tree."""
    need(is_tree(tree), "tree")
    made = names_at_nodes(grammar[2], tree)[0]
    return any([start in made for start in grammar[1]])
