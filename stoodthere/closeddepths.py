"""The least depth by which a lot is closed."""

from stoodthere.basics import is_number, need
from stoodthere.books import depth_book
from stoodthere.canons import canon_by


def pairs_at_one_place(driven):
    """The pairs (one, two) of unlike names, one the less, with trees that stand at one place of trees of the lot."""
    rows = {}
    for result, word, parts in driven[2]:
        for at, part in enumerate(parts):
            rows.setdefault((word, parts[:at], parts[at + 1:]), []).append((part, result))
    below = {}
    for row in rows.values():
        for one, first in row:
            for two, second in row:
                if one < two:
                    pair = (min(first, second), max(first, second))
                    below.setdefault(pair, []).append((one, two))
    waiting = [(one, two) for one in driven[1] for two in driven[1] if one < two]
    waiting.extend([(name, name) for name in range(driven[0])])
    found = {}
    while waiting:
        pair = waiting.pop()
        if pair not in found:
            found[pair] = True
            waiting.extend(below.get(pair, []))
    return [(one, two) for one, two in found if one < two]


def part_rows_of(driven):
    """For each pair (one, two) of unlike names, one the less, the pairs of parts of their rules with one symbol."""
    by_symbol = {}
    for result, word, parts in driven[2]:
        by_symbol.setdefault((word, len(parts)), []).append((result, parts))
    rows = {}
    for row in by_symbol.values():
        for one, parts in row:
            for two, other_parts in row:
                if one < two:
                    pairs = [(min(pair), max(pair)) for pair in zip(parts, other_parts)]
                    rows.setdefault((one, two), []).append([pair for pair in pairs if pair[0] != pair[1]])
    return rows


def still_alike(alike, part_rows):
    """The pairs of names with trees that are the same cut one deeper than alike tells."""
    found = {}
    for pair in alike:
        if any([all([part in alike for part in row]) for row in part_rows.get(pair, [])]):
            found[pair] = True
    return found


def closed_depth(grammar, most):
    """Returns the least depth up to most by which the lot is closed, or None if there is none."""
    need(is_number(most), "most")
    driven = canon_by(depth_book(0), grammar)
    risky = pairs_at_one_place(driven)
    part_rows = part_rows_of(driven)
    # At depth 0 all trees are of one kind.
    alike = {(one, two): True for two in range(driven[0]) for one in range(two)}
    for depth in range(most + 1):
        if not any([pair in alike for pair in risky]):
            return depth
        deeper = still_alike(alike, part_rows)
        if len(deeper) == len(alike):
            return None
        alike = deeper
    return None
