"""The least trees that names of a grammar make."""

from heapq import heappop, heappush

from stoodthere.orders import least_of
from stoodthere.pieces import whole_of


def rules_by_part(grammar):
    """For each name, the numbers of the rules that have it among their parts."""
    names, _, rules = grammar
    rows = [[] for _ in range(names)]
    for k, (_, _, parts) in enumerate(rules):
        for part in sorted(set(parts)):
            rows[part].append(k)
    return rows


def least_trees(grammar):
    """Returns a tuple with the least tree that each name makes, None if it makes none."""
    names, _, rules = grammar
    users = rules_by_part(grammar)
    missing = [len(set(parts)) for _, _, parts in rules]
    found = [None] * names
    queue = []
    for result, word, parts in rules:
        if not parts:
            heappush(queue, (1, ((word, 0),), result))
    # A whole is behind its parts: what comes out of the queue is the least that still can come.
    while queue:
        _, tree, name = heappop(queue)
        if found[name] is not None:
            continue
        found[name] = tree
        for k in users[name]:
            missing[k] -= 1
            result, word, parts = rules[k]
            if missing[k] == 0 and found[result] is None:
                whole = whole_of(word, [found[part] for part in parts])
                heappush(queue, (len(whole), whole, result))
    return tuple(found)


def lot_least(grammar):
    """Returns the least tree of the lot of grammar, None if it is empty."""
    least = least_trees(grammar)
    return least_of([least[start] for start in grammar[1] if least[start] is not None])
