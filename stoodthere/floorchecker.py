"""The checker of floors."""

from stoodthere.basics import is_integer, need
from stoodthere.errors import InvalidPaper
from stoodthere.floors import most_at_node, most_for_rule
from stoodthere.pieces import ends_of, part_nodes
from stoodthere.treekinds import is_tree


def is_pair(thing):
    """Whether thing is a pair of integers."""
    return isinstance(thing, tuple) and len(thing) == 2 and all([is_integer(entry) for entry in thing])


def is_row(thing, names):
    """Whether thing is a tuple with a pair of integers for each of so many names."""
    return isinstance(thing, tuple) and len(thing) == names and all([is_pair(pair) for pair in thing])


def is_sheet(thing, names, nodes):
    """Whether thing is a sheet for so many names and nodes."""
    if not isinstance(thing, tuple) or len(thing) != 2:
        return False
    z, h = thing
    if not is_row(z, names) or not isinstance(h, tuple) or len(h) != nodes:
        return False
    return all([is_row(row, names) for row in h])


def fault_of_sheet(driven, tree, z, h):
    """What is wrong with the sheet (z, h) as floors: None, or a word and a number."""
    for k, rule in enumerate(driven[2]):
        if z[rule[0]] > most_for_rule(rule, z):
            return ("rule", k)
    ends = ends_of(tree)
    rows = part_nodes(tree)
    for node, symbol in enumerate(tree):
        lower = [h[part] for part in rows[node]]
        for rule in driven[2]:
            if h[node][rule[0]] > most_at_node(rule, symbol, ends[node] - node, z, lower):
                return ("floor", node)
    return None


def lets_floors(driven, tree, thing):
    """Returns what the floors tell; raises InvalidPaper if thing is no floors for driven and tree."""
    need(is_tree(tree), "tree")
    if not is_sheet(thing, driven[0], len(tree)):
        raise InvalidPaper("shape", -1)
    z, h = thing
    fault = fault_of_sheet(driven, tree, z, h)
    if fault is not None:
        word, at = fault
        raise InvalidPaper(word, at)
    return min([h[0][start] for start in driven[1]])
