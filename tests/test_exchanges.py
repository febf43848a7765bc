"""Exchanges, and rounds of them: [29] and [30]."""

import unittest

from stoodthere.exchanges import exchanged
from stoodthere.rounds import fourths_of, grown, one_round, open_exchange
from tests import oracle
from tests.checks import Checks
from tests.samples import A, B, BOLD, BOOKS, BOTH, C, DEEP, FA, FB, FFA, G, MIX, SMALL_TREES, WIDE
from tests.samples import WRONG_NUMBERS, WRONG_SENTENCES, WRONG_TREES, Draw, drawn_sentences, trees_up_to

GAA, GAB, GBA, GBB = ((("g", 2),) + one + two for one in (A, B) for two in (A, B))


def words(many):
    """So many words as trees, in order."""
    return tuple((("a" + str(k), 0),) for k in range(100, 100 + many))


class TestExchanged(Checks, unittest.TestCase):

    def test_edges(self):
        self.assert_same(exchanged(BOLD, A, FA, 0, FA, 1), FFA)
        self.assert_same(exchanged(BOLD, A, FA, 0, A, 0), FA)
        self.assert_same(exchanged(DEEP, A, FA, 0, FA, 1), None)
        self.assert_same(exchanged(BOLD, A, FA, 0, FA, 0), None)
        self.assert_same(exchanged(BOLD, A, FA, 0, FB, 1), None)
        self.assert_same(exchanged(BOLD, FA, A, 1, A, 0), None)
        self.assert_same(exchanged(BOLD, FA, FB, 1, FFA, 2), (("f", 1), ("f", 1), ("b", 0)))
        self.assert_same(exchanged(BOLD, FA, FB, 1, (("g", 2), ("a", 0), ("b", 0)), 1), GBB)
        self.assert_same(exchanged(BOLD, GAA, GAB, 1, A, 0), None)
        self.assert_same(exchanged(BOLD, GAA, GAB, 2, A, 0), B)
        self.assert_same(exchanged(BOLD, GAA, GBA, 1, GAA, 2), GAB)

    def test_one_tree_twice(self):
        for tree in (A, G, WIDE):
            for node in range(len(tree)):
                self.assert_same(exchanged(BOLD, tree, tree, node, tree, node), tree)
                self.assert_same(exchanged(MIX, tree, tree, node, tree, node), tree)

    def test_all_small_ones(self):
        trees = trees_up_to((("a", 0), ("b", 0), ("f", 1), ("g", 2)), 3)
        for book in (BOLD, DEEP, (("groups", (("f", 1), ("b", 1)), 0),)):
            for one in trees:
                for two in trees:
                    for node in range(len(one)):
                        for third in trees[::3]:
                            for place in range(len(third)):
                                wanted = oracle.fourth(book, one, two, node, third, place)
                                self.assert_same(exchanged(book, one, two, node, third, place), wanted)

    def test_drawn_ones(self):
        draw = Draw(50)
        for book in BOOKS:
            for _ in range(150):
                one, two, third = (draw.one_of(SMALL_TREES) for _ in range(3))
                node, place = draw.below(len(one)), draw.below(len(third))
                if draw.below(2):
                    two = oracle.with_other(one, node, draw.one_of(SMALL_TREES))
                if draw.below(2):
                    third = oracle.with_other(third, place, oracle.nodes(oracle.nested(one))[node])
                wanted = oracle.fourth(book, one, two, node, third, place)
                self.assert_same(exchanged(book, one, two, node, third, place), wanted)

    def test_wrong_trees(self):
        for thing in WRONG_TREES:
            self.assert_not_usable("one", exchanged, BOLD, thing, A, 0, A, 0)
            self.assert_not_usable("two", exchanged, BOLD, A, thing, 0, A, 0)
            self.assert_not_usable("third", exchanged, BOLD, A, A, 0, thing, 0)

    def test_wrong_nodes(self):
        for node in WRONG_NUMBERS + (2, 10 ** 59):
            self.assert_not_usable("node", exchanged, BOLD, FA, G, node, G, 0)
            self.assert_not_usable("place", exchanged, BOLD, G, G, 0, FA, node)

    def test_node_of_one_need_not_be_one_of_two(self):
        self.assert_same(exchanged(BOLD, FFA, A, 1, A, 0), None)
        self.assert_same(exchanged(BOLD, FFA, A, 2, FA, 1), None)
        self.assert_not_usable("node", exchanged, BOLD, A, FFA, 1, A, 0)

    def test_the_first_wrong_one_is_told(self):
        self.assert_not_usable("one", exchanged, BOLD, None, None, None, None, None)
        self.assert_not_usable("two", exchanged, BOLD, A, None, 9, None, None)
        self.assert_not_usable("node", exchanged, BOLD, A, A, 1, None, None)
        self.assert_not_usable("third", exchanged, BOLD, A, A, 0, None, None)
        self.assert_not_usable("place", exchanged, BOLD, A, A, 0, A, 1)


class TestRounds(Checks, unittest.TestCase):

    def test_examples(self):
        self.assert_same(fourths_of(BOLD, (A, FA)), ((("f", 1), ("f", 1), ("a", 0)),))

    def test_no_trees_and_one_tree(self):
        for book in BOOKS:
            for trees in ((), (A,), (BOTH,), (WIDE,)):
                self.assert_same(fourths_of(book, trees), ())
                self.assert_same(one_round(book, trees, 60), trees)
                self.assert_same(grown(book, trees, 60, 3), trees)
                self.assert_same(open_exchange(book, trees), None)

    def test_drawn_trees(self):
        draw = Draw(51)
        small = tuple(trees_up_to((("a", 0), ("b", 0), ("f", 1), ("g", 2)), 4))
        for book in BOOKS:
            for _ in range(8):
                trees = drawn_sentences(draw, 2 + draw.below(4), small)
                fourths = oracle.ordered(oracle.Lot(book, trees).fourths())
                self.assert_same(fourths_of(book, trees), fourths)
                for most in (0, 2, 4, 60):
                    short = tuple(tree for tree in fourths if len(tree) <= most)
                    self.assert_same(one_round(book, trees, most), oracle.ordered(trees + short))
                self.check_open_exchange(book, trees, fourths)

    def check_open_exchange(self, book, trees, fourths):
        told = open_exchange(book, trees)
        if not fourths:
            self.assert_same(told, None)
            return
        self.assertEqual((type(told), len(told)), (tuple, 6))
        one, two, node, third, place, fourth = told
        for tree in (one, two, third):
            self.assertIn(tree, trees)
        self.assertNotIn(fourth, trees)
        self.assert_same(exchanged(book, one, two, node, third, place), fourth)
        self.assert_same(oracle.fourth(book, one, two, node, third, place), fourth)

    def test_most_keeps_long_trees_and_bars_long_fourths(self):
        trees = (FA, A, FFA)
        fourths = fourths_of(BOLD, trees)
        self.assert_same(tuple(len(tree) for tree in fourths), (4, 5))
        self.assert_same(one_round(BOLD, trees, 0), (A, FA, FFA))
        self.assert_same(one_round(BOLD, trees, 3), (A, FA, FFA))
        self.assert_same(one_round(BOLD, trees, 4), (A, FA, FFA, fourths[0]))
        self.assert_same(one_round(BOLD, trees, 5), (A, FA, FFA) + fourths)

    def test_grown(self):
        chain = [(("f", 1),) * k + A for k in range(40)]
        for most in (0, 1, 2, 3, 10, 33):
            for rounds, many in ((0, 2), (1, 3), (2, 5), (3, 9), (4, 17), (5, 33)):
                wanted = tuple(tree for k, tree in enumerate(chain[:many]) if k < 2 or len(tree) <= most)
                self.assert_same(grown(BOLD, (FA, A), most, rounds), wanted)
        self.assert_same(grown(BOLD, (FA, A), 38, 20), tuple(chain[:38]))

    def test_grown_is_one_round_after_another(self):
        draw = Draw(52)
        for book in BOOKS:
            for _ in range(4):
                trees = drawn_sentences(draw, 3)
                lot = trees
                for rounds in range(4):
                    wanted = oracle.ordered(lot)
                    if len(wanted) > 400:
                        break
                    self.assert_same(grown(book, trees, 6, rounds), wanted)
                    if len(wanted) > 60:
                        break
                    lot = one_round(book, wanted, 6)

    def test_grown_to_the_end(self):
        draw = Draw(53)
        small = tuple(trees_up_to((("a", 0), ("b", 0), ("f", 1), ("g", 2)), 4))
        for book in (BOLD, DEEP, BOOKS[5], BOOKS[9]):
            for _ in range(5):
                trees = drawn_sentences(draw, 3, small)
                wanted = oracle.Lot(book, trees).closed_to(5)
                if len(wanted) <= 150:
                    self.assert_same(grown(book, trees, 5, 20), wanted)

    def test_lots_that_are_closed(self):
        for trees in ((A, B), (A, B, C), (FA, FB), (GAA, GAB, GBA, GBB), (FFA, (("f", 1), ("f", 1), ("b", 0)))):
            for book in BOOKS:
                self.assert_same(fourths_of(book, trees), ())
                self.assert_same(open_exchange(book, trees), None)
        self.assert_same(fourths_of(BOLD, (GAA, GAB, GBA)), (GBB,))
        self.assert_same(fourths_of(BOLD, (GAB, GBB)), ((("g", 2), ("a", 0), ("a", 0)), (("g", 2), ("b", 0), ("a", 0))))
        self.assert_same(fourths_of(DEEP, (GAB, GBB)), ())

    def test_pieces_inside_others_and_twice_in_one(self):
        twice = (("g", 2), ("f", 1), ("a", 0), ("f", 1), ("a", 0))
        fourths = fourths_of(BOLD, (twice, FA, FB))
        wanted = {oracle.with_other(twice, 2, B), oracle.with_other(twice, 4, B)}
        self.assertLessEqual(wanted, set(fourths))
        self.assertNotIn((("g", 2),) + FB + FB, fourths)
        self.assert_same(fourths, oracle.ordered(oracle.Lot(BOLD, (twice, FA, FB)).fourths()))

    def test_many_trees(self):
        row = words(60)
        self.assert_same(grown(BOLD, row, 5, 20), row)
        pairs = tuple((("g", 2),) + one + row[0] for one in row[:20]) + tuple((("g", 2),) + row[0] + two for two in row[1:20])
        lot = grown(DEEP, pairs, 3, 20)
        self.assert_same(lot, oracle.ordered(pairs))
        groups = (("groups", (("g", 1),), 0),)
        self.assert_same(len(grown(groups, pairs, 3, 20)), 400)

    def test_wrong_parameters(self):
        for thing in WRONG_SENTENCES:
            self.assert_not_usable("trees", fourths_of, BOLD, thing)
            self.assert_not_usable("trees", one_round, BOLD, thing, -1)
            self.assert_not_usable("trees", grown, BOLD, thing, None, True)
            self.assert_not_usable("trees", open_exchange, BOLD, thing)
        for number in WRONG_NUMBERS:
            self.assert_not_usable("most", one_round, BOLD, (A, FA), number)
            self.assert_not_usable("most", grown, BOLD, (A, FA), number, number)
            self.assert_not_usable("rounds", grown, BOLD, (A, FA), 4, number)
            self.assert_not_usable("rounds", grown, BOLD, (), 0, number)


if __name__ == "__main__":
    unittest.main()
