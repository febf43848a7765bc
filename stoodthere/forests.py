"""Forests: rows of trees, one behind the other, of sorts that are made of each other."""

from heapq import heappop, heappush

from stoodthere.treekinds import SILENT


def product_of(row):
    """What all numbers of the row are, multiplied."""
    many = 1
    for number in row:
        many *= number
    return many


class Forests:
    """Sorts of forests, told by keys and then by numbers, each with its ways.

    A way is a pair (symbols, sorts): these symbols come first, then a forest of each of these sorts, at
    most two. A way with two sorts has no symbols, and neither of the two has the empty forest. No forest
    of a sort comes in two ways, or twice in one. The ways of a key are told by ways_of of the classes below.
    """

    def __init__(self, tops):
        self.numbers_by_key = {}
        self.sort_keys = []
        self.ways = []
        self.tops = [self.sort_of(key) for key in tops]
        while len(self.ways) < len(self.sort_keys):
            self.ways.append(self.ways_of(self.sort_keys[len(self.ways)]))
        self.keep_ways()
        # For each sort how many forests have so many symbols, for the numbers up to reach with at least one.
        self.counts_by_size = [{} for _ in self.ways]
        self.reach = -1

    def sort_of(self, key):
        """The number of the sort with this key."""
        number = self.numbers_by_key.setdefault(key, len(self.sort_keys))
        if number == len(self.sort_keys):
            self.sort_keys.append(key)
        return number

    def ways_of(self, key):
        """The list of the ways of the sort with this key: none, unless a class below tells them."""
        return []

    def users_of_sorts(self):
        """For each sort the pairs (sort, number of a way) of the ways that have it."""
        users = [[] for _ in self.ways]
        for sort, ways in enumerate(self.ways):
            for k, (_, lower) in enumerate(ways):
                for part in sorted(set(lower)):
                    users[part].append((sort, k))
        return users

    def many_missing(self):
        """For each way of each sort how many different sorts it has."""
        return [[len(set(lower)) for _, lower in ways] for ways in self.ways]

    def keep_ways(self):
        """Keeps only ways by which forests are made that come into one of a top."""
        users = self.users_of_sorts()
        missing = self.many_missing()
        waiting = [sort for sort, row in enumerate(missing) if 0 in row]
        made = {}
        while waiting:
            sort = waiting.pop()
            if sort not in made:
                made[sort] = True
                for user, k in users[sort]:
                    missing[user][k] -= 1
                    if missing[user][k] == 0:
                        waiting.append(user)
        kept = [[] for _ in self.ways]
        waiting = list(self.tops)
        reached = {}
        while waiting:
            sort = waiting.pop()
            if sort not in reached:
                reached[sort] = True
                kept[sort] = [way for way, left in zip(self.ways[sort], missing[sort]) if left == 0]
                waiting.extend([part for _, lower in kept[sort] for part in lower])
        self.ways = kept

    def least_forests(self):
        """A dict with the least forest of each sort: the shortest, and of these the first as Python compares."""
        users = self.users_of_sorts()
        missing = self.many_missing()
        least = {}
        queue = []
        for sort, ways in enumerate(self.ways):
            for symbols, lower in ways:
                if not lower:
                    heappush(queue, (len(symbols), symbols, sort))
        # A whole is no shorter than its parts: what comes out of the queue is the least that still can come.
        while queue:
            _, forest, sort = heappop(queue)
            if sort in least:
                continue
            least[sort] = forest
            for user, k in users[sort]:
                missing[user][k] -= 1
                if missing[user][k] == 0:
                    symbols, lower = self.ways[user][k]
                    whole = symbols + tuple([symbol for part in lower for symbol in least[part]])
                    heappush(queue, (len(whole), whole, user))
        return least

    def count_by(self, way, size):
        """How many forests with so many symbols come in this way."""
        symbols, lower = way
        left = size - len(symbols)
        if not lower:
            return 1 if left == 0 else 0
        one = self.counts_by_size[lower[0]]
        if len(lower) == 1:
            return one.get(left, 0)
        two = self.counts_by_size[lower[1]]
        return sum([many * two[left - own] for own, many in one.items() if left - own in two])

    def count_to(self, most):
        """Counts the forests with up to so many symbols."""
        while self.reach < most:
            self.reach += 1
            for sort, ways in enumerate(self.ways):
                many = sum([self.count_by(way, self.reach) for way in ways])
                if many > 0:
                    self.counts_by_size[sort][self.reach] = many

    def count_of_tops(self, size):
        """How many forests with so many symbols all tops have together."""
        self.count_to(size)
        return sum([self.counts_by_size[top].get(size, 0) for top in self.tops])

    def total_of_tops(self):
        """How many forests all tops have together, None if they are endlessly many."""
        totals = {}
        entered = {}
        waiting = list(self.tops)
        while waiting:
            sort = waiting[-1]
            below = [part for _, lower in self.ways[sort] for part in lower if part not in totals]
            if not below:
                rows = [[totals[part] for part in lower] for _, lower in self.ways[sort]]
                totals[sort] = sum([product_of(row) for row in rows])
                waiting.pop()
            elif sort in entered:
                # All that it waited for was gone into, and yet is not done: it comes below itself.
                return None
            else:
                entered[sort] = True
                waiting.extend(below)
        return sum([totals[top] for top in self.tops])


def rules_by_result(driven):
    """For each name the pairs of the root's symbol, as a tuple, and the parts of its rules."""
    rows = [[] for _ in range(driven[0])]
    for result, word, parts in driven[2]:
        rows[result].append((((word, len(parts)),), parts))
    return rows


class NameForests(Forests):
    """The forests of tuples of names of a driven grammar: a tree of each name, one behind the other."""

    def __init__(self, driven):
        self.rules_of = rules_by_result(driven)
        Forests.__init__(self, [(start,) for start in driven[1]])

    def ways_of(self, key):
        """The list of the ways of a tuple of names."""
        if len(key) == 1:
            return [(symbols, (self.sort_of(parts),)) for symbols, parts in self.rules_of[key[0]]]
        return [((), (self.sort_of(key[:1]), self.sort_of(key[1:])))] if key else [((), ())]


class LeafForests(Forests):
    """The same, told apart by which ones of some words are their leaves: keys are triples (names, first, end)."""

    def __init__(self, driven, words):
        self.rules_of = rules_by_result(driven)
        self.words = words
        Forests.__init__(self, [((start,), 0, len(words)) for start in driven[1]])

    def ways_of(self, key):
        """The list of the ways of a triple; it has at least one name."""
        names, first, end = key
        if len(names) > 1:
            pairs = [((names[:1], first, k), (names[1:], k, end)) for k in range(first, end + 1)]
            return [((), (self.sort_of(one), self.sort_of(two))) for one, two in pairs]
        ways = []
        for symbols, parts in self.rules_of[names[0]]:
            word = symbols[0][0]
            if parts:
                ways.append((symbols, (self.sort_of((parts, first, end)),)))
            elif self.words[first:end] == (() if word == SILENT else (word,)):
                ways.append((symbols, ()))
        return ways
