"""Places with fewest symbols at which the names of a grammar make pieces."""

from heapq import heappop, heappush

from stoodthere.leasttrees import least_trees
from stoodthere.pieces import whole_of

EMPTY_PLACE = ((), ())


def size_of(place):
    """How many symbols a place has."""
    return len(place[0]) + len(place[1])


class PlaceMaker:
    """A trim grammar, with the least tree of each name."""

    def __init__(self, grammar):
        self.starts = grammar[1]
        self.rules = grammar[2]
        self.least = least_trees(grammar)
        self.rules_of = [[] for _ in self.least]
        self.uses_of = [[] for _ in self.least]
        for k, (result, _, parts) in enumerate(self.rules):
            self.rules_of[result].append(k)
            for at, part in enumerate(parts):
                self.uses_of[part].append((k, at))

    def place_below(self, place, k, at):
        """The place of the part with this number if rule k is used at place, the other parts being least ones."""
        _, word, parts = self.rules[k]
        trees = [self.least[part] for part in parts]
        front = [symbol for tree in trees[:at] for symbol in tree]
        back = [symbol for tree in trees[at + 1:] for symbol in tree]
        return (place[0] + ((word, len(parts)),) + tuple(front), tuple(back) + place[1])

    def places_below(self, name, place):
        """The pairs (name, place) of the parts of all rules of name if they are used at place."""
        pairs = []
        for k in self.rules_of[name]:
            for at, part in enumerate(self.rules[k][2]):
                pairs.append((part, self.place_below(place, k, at)))
        return pairs

    def places_from(self, pairs):
        """A dict with a place of fewest symbols for each name that comes, at it or below, of pairs (name, place)."""
        places = {}
        queue = []
        for name, place in pairs:
            heappush(queue, (size_of(place), name, place))
        while queue:
            _, name, place = heappop(queue)
            if name in places:
                continue
            places[name] = place
            for part, lower in self.places_below(name, place):
                if part not in places:
                    heappush(queue, (size_of(lower), part, lower))
        return places

    def homes(self):
        """A dict with a place of fewest symbols for each name."""
        return self.places_from([(start, EMPTY_PLACE) for start in self.starts])

    def rule_tree(self, k, at, tree):
        """The tree that rule k makes of tree as the part with this number, and least trees."""
        _, word, parts = self.rules[k]
        trees = [self.least[part] for part in parts]
        trees[at] = tree
        return whole_of(word, trees)
