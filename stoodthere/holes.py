"""Filling the holes of patterns."""

from stoodthere.basics import is_number, need
from stoodthere.forests import NameForests
from stoodthere.leasttrees import least_trees
from stoodthere.making import names_at_nodes, rules_by_symbol
from stoodthere.orders import least_of, order_key
from stoodthere.pieces import part_nodes, whole_of
from stoodthere.prices import holes_of
from stoodthere.treekinds import HOLE, is_pattern


def least_fill(driven, pattern):
    """Returns the least tree of the lot that fits pattern, or None if there is none."""
    need(is_pattern(pattern), "pattern")
    by_symbol = rules_by_symbol(driven[2])
    rows = part_nodes(pattern)
    any_trees = {name: tree for name, tree in enumerate(least_trees(driven)) if tree is not None}
    least = [any_trees for _ in pattern]
    for node in reversed(range(len(pattern))):
        if pattern[node] == HOLE:
            continue
        found = {}
        for result, word, parts in by_symbol.get(pattern[node], []):
            lower = [least[below].get(part) for below, part in zip(rows[node], parts)]
            if None not in lower:
                whole = whole_of(word, lower)
                found[result] = min(whole, found.get(result, whole), key=order_key)
        least[node] = found
    return least_of([least[0][start] for start in driven[1] if start in least[0]])


def counts_with(counts, others, most):
    """How many pairs have each number of symbols up to most, as counts tells of the one and others of the other."""
    found = {}
    for size, many in counts.items():
        for other, ways in others.items():
            if size + other <= most:
                found[size + other] = found.get(size + other, 0) + many * ways
    return found


def counts_of_rule(parts, lower, most):
    """How many trees a rule makes by their numbers of symbols, lower telling this for each part by its name."""
    found = {1: 1}
    for part, counts in zip(parts, lower):
        found = counts_with(found, counts.get(part, {}), most)
    return found


def fill_count(driven, pattern, nodes):
    """Returns how many trees of the lot with so many symbols fit pattern."""
    need(is_pattern(pattern), "pattern")
    need(is_number(nodes), "nodes")
    by_symbol = rules_by_symbol(driven[2])
    rows = part_nodes(pattern)
    # The counts of all names, also of those that do not stand in the lot, as they may fill a hole of it.
    every = NameForests((driven[0], tuple(range(driven[0])), driven[2]))
    every.count_to(nodes)
    any_counts = {name: every.counts_by_size[top] for name, top in enumerate(every.tops)}
    counts = [any_counts for _ in pattern]
    for node in reversed(range(len(pattern))):
        if pattern[node] == HOLE:
            continue
        found = {}
        for result, _, parts in by_symbol.get(pattern[node], []):
            of_rule = counts_of_rule(parts, [counts[below] for below in rows[node]], nodes)
            row = found.setdefault(result, {})
            for size, many in of_rule.items():
                row[size] = row.get(size, 0) + many
        counts[node] = found
    return sum([counts[0].get(start, {}).get(nodes, 0) for start in driven[1]])


def hole_names(driven, pattern):
    """Returns the ascending names that make a tree with which pattern, put for its only hole, is in the lot."""
    need(is_pattern(pattern) and len(holes_of(pattern)) == 1, "pattern")
    least = least_trees(driven)
    node = holes_of(pattern)[0]
    found = []
    for name, tree in enumerate(least):
        if tree is not None:
            whole = pattern[:node] + tree + pattern[node + 1:]
            if any([start in driven[1] for start in names_at_nodes(driven[2], whole)[0]]):
                found.append(name)
    return tuple(found)
