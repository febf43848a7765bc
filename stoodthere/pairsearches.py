"""What the names of a grammar make, told apart by what a second thing tells of trees."""

from heapq import heappop, heappush

from stoodthere.kindlists import choices_from
from stoodthere.leasttrees import rules_by_part
from stoodthere.pieces import whole_of


class NameMaker:
    """Tells of trees which name of a driven grammar makes them, as a KindMaker tells their kinds."""

    def __init__(self, driven):
        self.results = {(word, parts): result for result, word, parts in driven[2]}

    def kind_by(self, word, names):
        """The name of the trees with this word in the root, and parts of these names; None if there is none."""
        return self.results.get((word, tuple(names)))


class PairSearch:
    """Finds each pair of a name of a grammar and a kind of trees that it makes, those with lesser trees first.

    A whole is behind its parts, and with a lesser part it is less. So the least tree of a pair
    has parts that are the least of their pairs, and these are found ahead of it.
    """

    def __init__(self, grammar, maker):
        self.rules = grammar[2]
        self.maker = maker
        self.users = rules_by_part(grammar)
        self.queue = []
        # For each name the kinds that were found, and for each pair its least tree.
        self.kinds = [[] for _ in self.users]
        self.least = {}
        # Each rule between pairs: (result, word, parts).
        self.pair_rules = []
        for k, (_, _, parts) in enumerate(self.rules):
            if not parts:
                self.offer(k, [])

    def offer(self, k, kinds):
        """Notes rule k for parts of these kinds, and puts into the queue the least tree that comes of it."""
        result, word, names = self.rules[k]
        pair = (result, self.maker.kind_by(word, kinds))
        parts = tuple(zip(names, kinds))
        self.pair_rules.append((pair, word, parts))
        if pair not in self.least:
            tree = whole_of(word, [self.least[part] for part in parts])
            # The same tree comes twice with one name only if it is of one kind: kinds need not compare.
            heappush(self.queue, (len(tree), tree, result, pair[1]))

    def offer_with(self, name, kind):
        """Offers all rules with this pair, the newest one, among their parts."""
        for k in self.users[name]:
            names = self.rules[k][2]
            for first in [at for at, part in enumerate(names) if part == name]:
                rows = []
                for at, part in enumerate(names):
                    every = self.kinds[part]
                    earlier = every[:-1] if part == name else every
                    rows.append(earlier if at < first else [kind] if at == first else every)
                for kinds in choices_from(rows):
                    self.offer(k, kinds)

    def advance(self):
        """Finds the next pair and returns it, or None if there is none left."""
        while self.queue:
            _, tree, name, kind = heappop(self.queue)
            if (name, kind) not in self.least:
                self.least[(name, kind)] = tree
                self.kinds[name].append(kind)
                self.offer_with(name, kind)
                return (name, kind)
        return None
