"""All kinds that trees of some symbols have, and pieces by their kinds."""

from heapq import heappop, heappush

from stoodthere.basics import need
from stoodthere.kindmakers import KindMaker
from stoodthere.orders import order_key
from stoodthere.piecelists import pieces_of
from stoodthere.pieces import whole_of
from stoodthere.treekinds import are_symbols, is_trees


def choices_from(rows):
    """All lists that have one value of each row, in its sequence."""
    choices = [[]]
    for row in rows:
        choices = [choice + [value] for choice in choices for value in row]
    return choices


class KindSearch:
    """Finds the least tree of each kind, lesser trees first.

    A whole is behind its parts, and with a lesser part it is less. So the least tree of a
    kind has parts that are the least of their kinds, and these are found ahead of it.
    """

    def __init__(self, book, symbols):
        self.maker = KindMaker(book)
        self.symbols = symbols
        self.queue = []
        # The trees of kinds in the queue that are the least ones so far.
        self.nearest = {}
        self.found = {}

    def offer(self, word, kinds):
        """Puts into the queue the least tree with this word and parts of these kinds."""
        kind = self.maker.kind_by(word, kinds)
        tree = whole_of(word, [self.found[part] for part in kinds])
        if kind in self.nearest and order_key(self.nearest[kind]) <= order_key(tree):
            return
        self.nearest[kind] = tree
        heappush(self.queue, (len(tree), tree, kind))

    def offer_with(self, kind, many, word):
        """Offers all trees with many parts, at least one of them of this kind, the newest one."""
        every = list(self.found)
        earlier = every[:-1]
        for first in range(many):
            rows = [earlier] * first + [[kind]] + [every] * (many - first - 1)
            for kinds in choices_from(rows):
                self.offer(word, kinds)

    def run(self):
        """Finds all kinds; returns the pairs of each kind with its least tree."""
        for word, many in self.symbols:
            if many == 0:
                self.offer(word, [])
        while self.queue:
            _, tree, kind = heappop(self.queue)
            if kind in self.found:
                continue
            self.found[kind] = tree
            for word, many in self.symbols:
                self.offer_with(kind, many, word)
        return tuple([(kind, self.found[kind]) for kind in self.found])


def kinds_over(book, symbols):
    """Returns the pairs of each kind that trees of these symbols have, with the least such tree."""
    need(are_symbols(symbols), "symbols")
    return KindSearch(book, symbols).run()


def pieces_by_kind(book, trees):
    """Returns all pieces of trees, those of one kind in one tuple."""
    need(is_trees(trees), "trees")
    maker = KindMaker(book)
    groups = {}
    for piece in pieces_of(trees):
        groups.setdefault(maker.kind_in(piece), []).append(piece)
    return tuple([tuple(groups[kind]) for kind in groups])
