"""The least depth by which a lot is closed."""

from stoodthere.basics import is_number, need
from stoodthere.books import depth_book
from stoodthere.canons import canon_by


def pairs_at_one_place(driven):
    """The pairs (one, two) of unlike names, one the less, with trees that stand at one place of trees of the lot."""
    rows = {}
    for result, word, parts in driven[2]:
        for at, part in enumerate(parts):
            rows.setdefault((word, parts[:at], parts[at + 1:]), []).append((part, result))
    below = {}
    for row in rows.values():
        for one, first in row:
            for two, second in row:
                if one < two:
                    pair = (min(first, second), max(first, second))
                    below.setdefault(pair, []).append((one, two))
    waiting = [(one, two) for one in driven[1] for two in driven[1] if one < two]
    waiting.extend([(name, name) for name in range(driven[0])])
    found = {}
    while waiting:
        pair = waiting.pop()
        if pair not in found:
            found[pair] = True
            waiting.extend(below.get(pair, []))
    return [(one, two) for one, two in found if one < two]


class AlikePairs:
    """The pairs (one, two) of unlike names, one the less, with trees that are the same if cut at some depth.

    Trees are so if they have one root symbol, and their parts are so if cut one less deep. With the
    depth pairs only get fewer, and so do the pairs of rules that show it.
    """

    def __init__(self, driven):
        # For each name the parts of its rules for each symbol.
        self.part_rows = [{} for _ in range(driven[0])]
        for result, word, parts in driven[2]:
            self.part_rows[result].setdefault((word, len(parts)), []).append(parts)
        # For each pair the number of the first pair of rules that may show it. Cut at 0 all trees are the same.
        self.firsts = {(one, two): 0 for two in range(driven[0]) for one in range(two)}

    def are_alike(self, one, two):
        """Whether two names, perhaps the same one, have trees that are the same by now."""
        return one == two or (min(one, two), max(one, two)) in self.firsts

    def next_first(self, one, two):
        """The number of the first pair of rules by which trees of the pair are the same one deeper, or None."""
        first = self.firsts[(one, two)]
        begin = 0
        for symbol, rows in self.part_rows[one].items():
            others = self.part_rows[two].get(symbol, [])
            end = begin + len(rows) * len(others)
            for number in range(max(first, begin), end):
                at, other_at = divmod(number - begin, len(others))
                if all([self.are_alike(part, other) for part, other in zip(rows[at], others[other_at])]):
                    return number
            begin = end
        return None

    def deepen(self):
        """Goes one deeper; returns whether pairs got lost."""
        kept = {}
        for one, two in self.firsts:
            first = self.next_first(one, two)
            if first is not None:
                kept[(one, two)] = first
        has_lost = len(kept) < len(self.firsts)
        self.firsts = kept
        return has_lost


def closed_depth(grammar, most):
    """Returns the least depth up to most by which the lot is closed, or None if there is none."""
    need(is_number(most), "most")
    driven = canon_by(depth_book(0), grammar)
    risky = pairs_at_one_place(driven)
    alike = AlikePairs(driven)
    for depth in range(most + 1):
        if not any([alike.are_alike(one, two) for one, two in risky]):
            return depth
        if not alike.deepen():
            return None
    return None
