"""What follows from the points on counts, numbers, holes, mending, floors and readings: each sentence of [93]."""

import unittest

from stoodthere.counts import count_of, counts_to, lot_size
from stoodthere.floorchecker import lets_floors
from stoodthere.floors import floors_of
from stoodthere.found import grammar_of
from stoodthere.holes import fill_count, hole_names, least_fill
from stoodthere.kinds import kind_of
from stoodthere.leasttrees import least_trees, lot_least
from stoodthere.making import takes
from stoodthere.mending import mend_of
from stoodthere.numbering import ahead_count, next_tree, number_of, tree_at
from stoodthere.prices import leaves_of, price_of
from stoodthere.readcounts import reading_count, reading_total
from stoodthere.rings import ring_of
from stoodthere.trims import trimmed
from tests import oracle
from tests.checks import Checks
from tests.samples import BOOKS, SMALL_SYMBOLS, Draw, drawn_driven, drawn_sentences, drawn_tree, trees_up_to

SIX = trees_up_to(SMALL_SYMBOLS, 6)
HOLE = (("?", 0),)


def drawn(seed, many, rules=9):
    draw = Draw(seed)
    for _ in range(many):
        yield draw, drawn_driven(draw, 1 + draw.below(4), 2 + draw.below(rules))


def drawn_live(seed, many):
    """Trim grammars whose lots are not empty, each with a tree."""
    for draw, grammar in drawn(seed, many):
        grammar = trimmed(grammar)
        if grammar[0] > 0:
            yield draw, grammar, drawn_tree(draw, 8) if draw.below(2) else draw.one_of(SIX)


class TestConsequences(Checks, unittest.TestCase):

    def test_a_size_or_a_ring(self):
        seen = {True: 0, False: 0}
        for _, grammar in drawn(530, 200):
            size = lot_size(grammar)
            self.assert_same(size is None, ring_of(grammar) is not None)
            seen[size is None] += 1
        self.assertGreater(min(seen.values()), 50)

    def test_numbers(self):
        for draw, grammar in drawn(531, 120):
            for tree in draw.some_of(SIX, 6) + draw.some_of(oracle.lot_among(grammar, SIX), 6):
                number, ahead = number_of(grammar, tree), ahead_count(grammar, tree)
                has_tree = takes(grammar, tree)
                self.assert_same(number, ahead if has_tree else None)
                if has_tree:
                    self.assert_same(tree_at(grammar, number), tree)
                self.assert_same(next_tree(grammar, tree), tree_at(grammar, ahead + has_tree))

    def test_the_hole_alone(self):
        for _, grammar in drawn(532, 150):
            self.assert_same(least_fill(grammar, HOLE), lot_least(grammar))
            self.assert_same(tuple(fill_count(grammar, HOLE, nodes) for nodes in range(12)), counts_to(grammar, 11))
            self.assert_same(fill_count(grammar, HOLE, 60), count_of(grammar, 60))
            least = least_trees(grammar)
            self.assert_same(hole_names(grammar, HOLE), tuple(start for start in grammar[1] if least[start] is not None))

    def test_hole_names_of_fair_grammars_are_of_different_kinds(self):
        draw = Draw(533)
        several = 0
        for k in range(200):
            book = BOOKS[k % len(BOOKS)]
            fair = grammar_of(book, drawn_sentences(draw, 2 + draw.below(5)))
            least = least_trees(fair)
            for _ in range(4):
                tree = draw.one_of([tree for tree in SIX if takes(fair, tree)])
                node = draw.below(len(tree))
                piece = oracle.nodes(oracle.nested(tree))[node]
                names = hole_names(fair, tree[:node] + HOLE + tree[node + len(piece):])
                kinds = [kind_of(book, least[name]) for name in names]
                self.assertEqual(len(set(kinds)), len(kinds))
                self.assertIn(kind_of(book, piece), kinds)
                several += len(names) > 1
        self.assertGreater(several, 20)

    def test_price_0_for_trees_of_the_lot(self):
        seen = {True: 0, False: 0}
        for _, grammar, tree in drawn_live(534, 400):
            price, sentence = mend_of(grammar, tree)
            self.assert_same(price == 0, takes(grammar, tree))
            self.assert_same((price_of(tree, sentence), takes(grammar, sentence)), (price, True))
            seen[price == 0] += 1
        self.assertGreater(min(seen.values()), 15)

    def lowered(self, draw, sheet):
        """The sheet with some numbers lowered, not all of which need stay floors."""
        def row_of(row):
            return tuple(tuple(number - (draw.below(3) if draw.below(4) == 0 else 0) for number in pair) for pair in row)
        return (row_of(sheet[0]), tuple(row_of(row) for row in sheet[1]))

    def test_floors_tell_no_more_than_prices(self):
        kept = 0
        for draw, grammar, tree in drawn_live(535, 120):
            sheets = [floors_of(grammar, tree)]
            sheets += [self.lowered(draw, sheets[0]) for _ in range(8)]
            lot = oracle.lot_among(grammar, SIX)
            for sheet in sheets:
                try:
                    told = lets_floors(grammar, tree, sheet)
                except ValueError:
                    continue
                kept += sheet != sheets[0]
                for other in lot:
                    self.assertLessEqual(told, (price_of(tree, other), len(other)))
        self.assertGreater(kept, 30)

    def test_all_lesser_pairs_are_told(self):
        for draw, grammar, tree in drawn_live(536, 100):
            z, h = floors_of(grammar, tree)
            most = lets_floors(grammar, tree, (z, h))
            start = grammar[1][0]
            for pair in (most, (most[0], most[1] - 1), (most[0] - 1, most[1] + 10 ** 9), (0, 0), (-7, 3), (-10 ** 59, 0),
                         (draw.below(most[0] + 1), 0)):
                if pair <= most:
                    row = h[0][:start] + (pair,) + h[0][start + 1:]
                    self.assert_same(lets_floors(grammar, tree, (z, (row,) + h[1:])), pair)

    def test_readings(self):
        for draw, grammar in drawn(537, 120):
            lot = oracle.lot_among(grammar, SIX)
            for tree in draw.some_of(lot, 5):
                words = leaves_of(tree)
                same = [other for other in lot if leaves_of(other) == words]
                # Each tree of the lot is counted for its leaves and its number of symbols.
                self.assert_same(reading_count(grammar, words, len(tree)),
                                 len([other for other in same if len(other) == len(tree)]))
                total = reading_total(grammar, words)
                if total is not None:
                    self.assertGreaterEqual(total, sum(reading_count(grammar, words, nodes) for nodes in range(61)))
                    self.assertGreaterEqual(total, 1)

    def test_all_leaves_together_are_all_trees(self):
        symbols = (("a", 0), (".", 0), ("g", 2), ("f", 1))
        draw = Draw(538)
        for _ in range(60):
            grammar = drawn_driven(draw, 1 + draw.below(3), 3 + draw.below(5), symbols)
            for nodes in range(1, 7):
                counts = [reading_count(grammar, ("a",) * many, nodes) for many in range(9)]
                self.assert_same(sum(counts), count_of(grammar, nodes))


if __name__ == "__main__":
    unittest.main()
