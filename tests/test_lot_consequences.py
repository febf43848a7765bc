"""What follows from the points on lots: each sentence of [39], and what [11] says of these functions."""

import unittest

from stoodthere.chainchecker import lets_chain
from stoodthere.exchanges import exchanged
from stoodthere.fairness import is_fair
from stoodthere.joinchecker import lets_joins
from stoodthere.kinds import kind_of
from stoodthere.leasttrees import least_trees
from stoodthere.ledtrees import is_led
from stoodthere.making import takes
from stoodthere.orders import in_order, least_of
from stoodthere.piecelists import pieces_of
from stoodthere.pieces import piece_at, tree_of, with_piece
from stoodthere.rounds import fourths_of, grown, one_round, open_exchange
from tests import oracle
from tests.checks import Checks
from tests.samples import A, BOLD, BOOKS, BOTH, DEEP, FA, SMALL_SYMBOLS, Draw, drawn_driven, drawn_grammar
from tests.samples import drawn_sentences, trees_up_to

TREES = tuple(trees_up_to(SMALL_SYMBOLS, 4))
SIX = trees_up_to(SMALL_SYMBOLS, 6)
# Fair grammars whose lots are finite, each with a book.
FAIR_AND_FINITE = (
    (BOLD, (1, (0,), ((0, "a", ()), (0, "b", ())))),
    (BOLD, (2, (1,), ((0, "a", ()), (0, "b", ()), (1, "f", (0,))))),
    (BOLD, (2, (1,), ((0, "a", ()), (0, "b", ()), (1, "g", (0, 0))))),
    (BOLD, (3, (2,), ((0, "a", ()), (0, "b", ()), (1, "f", (0,)), (2, "g", (0, 1)), (2, "h", (0,))))),
    (DEEP, (3, (0, 1, 2), ((0, "a", ()), (1, "b", ()), (2, "f", (0,)), (2, "f", (1,))))),
    ((("groups", (("a", 1), ("b", 1)), 0),), (2, (0, 1), ((0, "a", ()), (0, "b", ()), (1, "f", (0,))))),
)


def lots(seed, books, many):
    """Books with a few drawn sentences each."""
    draw = Draw(seed)
    for book in books:
        for _ in range(many):
            yield book, drawn_sentences(draw, 2 + draw.below(3), TREES)


class TestConsequences(Checks, unittest.TestCase):

    def test_all_lies_in_the_closure(self):
        """The closure of the trees passed in, up to some size, is what joins lead to."""
        draw = Draw(100)
        for book, trees in lots(101, BOOKS, 5):
            joins, _ = oracle.saturated(book, trees)
            for fourth in fourths_of(book, trees):
                self.assert_same(is_led(book, trees, joins, fourth), True)
            for one, two, node, third, place, _ in oracle.Lot(book, trees).exchanges():
                fourth = exchanged(book, one, two, node, third, place)
                self.assert_same(is_led(book, trees, joins, fourth), True)
            chain = self.drawn_chain(draw, book, trees)
            for tree in lets_chain(book, trees, chain):
                self.assert_same(is_led(book, trees, joins, tree), True)

    def drawn_chain(self, draw, book, trees):
        chain = [("given", tree) for tree in trees]
        told = list(trees)
        for _ in range(6):
            steps = [steps for steps in oracle.Lot(book, told).exchanges() if len(steps[5]) < 12]
            one, two, node, third, place, fourth = draw.one_of(steps)
            chain.append(("put", told.index(third), place, told.index(one), node, told.index(two)))
            told.append(fourth)
        return tuple(chain)

    def test_joins_lead_into_the_closure_and_all_of_them_to_all_of_it(self):
        for book, trees in lots(102, BOOKS, 4):
            most = 5
            closure = set(oracle.Lot(book, trees).closed_to(most))
            joins, _ = oracle.saturated(book, trees)
            for many in (0, len(joins) // 2, len(joins)):
                led = {tree for tree in SIX if len(tree) <= most and is_led(book, trees, joins[:many], tree)}
                self.assertLessEqual(led, closure)
                self.assertLessEqual(set(trees), led)
            self.assertEqual(led, closure)

    def test_whatever_joins_lead_to_the_same(self):
        draw = Draw(103)
        for book, trees in lots(104, BOOKS, 3):
            one, _ = oracle.saturated(book, trees, draw)
            two, _ = oracle.saturated(book, trees, draw)
            self.assert_same(lets_joins(book, trees, one), lets_joins(book, trees, two))
            for tree in draw.some_of(SIX, 20):
                self.assert_same(is_led(book, trees, one, tree), is_led(book, trees, two, tree))

    def test_grown_to_the_end_has_all_of_the_closure(self):
        for book, trees in lots(105, BOOKS[:6] + BOOKS[8:10], 3):
            lot = grown(book, trees, 4, 20)
            if len(lot) <= 60:
                self.assert_same(one_round(book, lot, 4), lot)
                joins, _ = oracle.saturated(book, trees)
                wanted = tuple(tree for tree in SIX if len(tree) <= 4 and is_led(book, trees, joins, tree))
                self.assert_same(lot, wanted)

    def test_joins_are_as_many_as_pieces_less_classes(self):
        draw = Draw(106)
        for book, trees in lots(107, BOOKS, 4):
            joins, _ = oracle.saturated(book, trees, draw)
            for many in range(len(joins) + 1):
                classes = lets_joins(book, trees, joins[:many])
                self.assertEqual(many, len(pieces_of(trees)) - len(classes))
                self.assert_same(in_order(tuple(piece for row in classes for piece in row)), pieces_of(trees))

    def test_one_tree_alone_is_closed(self):
        for book in BOOKS:
            for tree in TREES + (BOTH,):
                self.assert_same(open_exchange(book, (tree,)), None)

    def test_lots_of_fair_grammars_are_closed(self):
        for book, grammar in FAIR_AND_FINITE:
            self.assert_same(is_fair(book, grammar), True)
            symbols = tuple(sorted({(word, len(parts)) for _, word, parts in grammar[2]}))
            lot = tuple(tree for tree in trees_up_to(symbols, 7) if takes(grammar, tree))
            self.assertGreater(len(lot), 1)
            self.assert_same(open_exchange(book, lot), None)
            self.assert_same(fourths_of(book, lot), ())
        self.assertIsNotNone(open_exchange(BOLD, (A, FA)))

    def test_least_trees(self):
        draw = Draw(108)
        for k in range(80):
            grammar = (drawn_driven if k % 2 else drawn_grammar)(draw, 1 + draw.below(4), 3 + draw.below(9))
            least = least_trees(grammar)
            made = [[] for _ in least]
            for result, word, parts in grammar[2]:
                if all(least[part] is not None for part in parts):
                    made[result].append(tree_of(word, tuple(least[part] for part in parts)))
            self.assert_same(least, tuple(least_of(tuple(row)) for row in made))

    def test_trees_of_one_kind_at_one_place_make_wholes_of_one_kind(self):
        draw = Draw(109)
        for book in BOOKS:
            for _ in range(150):
                tree, piece = draw.one_of(SIX), draw.one_of(TREES)
                node = draw.below(len(tree))
                if kind_of(book, piece_at(tree, node)) == kind_of(book, piece):
                    self.assertEqual(kind_of(book, with_piece(tree, node, piece)), kind_of(book, tree))


if __name__ == "__main__":
    unittest.main()
