"""Trim and plain grammars, teaching numbers, and the one name that makes a tree: [51] and [52]."""

import unittest

from stoodthere.fairness import is_plain, is_trim
from stoodthere.making import names_making, takes
from stoodthere.runs import name_of, unmade_in
from stoodthere.trims import plain_of, teaching_number, trimmed
from tests import oracle
from tests.checks import Checks
from tests.samples import A, B, BOTH, DOT, EMPTY, EVEN, FA, FAIR_DEEP, FB, FFA, FOUND, G, LONG, ODD, ONE, SMALL_SYMBOLS
from tests.samples import SMALL_TREES, WIDE, WRONG_TREES, Draw, drawn_driven, drawn_grammar, trees_up_to

DEAD = (4, (1, 3), ((0, "a", ()), (1, "f", (0,)), (2, "f", (2,)), (3, "g", (0, 2))))
SIX = trees_up_to(SMALL_SYMBOLS, 6)


class TestTrimmed(Checks, unittest.TestCase):

    def test_examples(self):
        grammar = (3, (2,), ((0, "b", ()), (1, "f", (2,)), (2, "a", ())))
        self.assert_same(trimmed(grammar), (1, (0,), ((0, "a", ()),)))

    def test_empty_lots(self):
        for grammar in (EMPTY, (5, (), ()), (1, (0,), ()), (1, (), ((0, "a", ()),)), (2, (0, 1), ((0, "f", (1,)),)),
                        (1, (0,), ((0, "f", (0,)),)), (2, (1,), ((0, "a", ()), (1, "g", (0, 1))))):
            self.assert_same((trimmed(grammar), plain_of(grammar)), (EMPTY, EMPTY))

    def test_trim_ones_stay(self):
        for grammar in (LONG, EVEN, ODD, ONE, FOUND, FAIR_DEEP, (2, (0, 1), ((0, "a", ()), (1, "a", ())))):
            self.assert_same(trimmed(grammar), grammar)

    def test_names_that_make_nothing_or_do_not_stand(self):
        self.assert_same(trimmed(DEAD), (2, (1,), ((0, "a", ()), (1, "f", (0,)))))
        # Name 0 makes a, but only rules with the empty name 1 lead to it.
        grammar = (3, (1, 2), ((0, "a", ()), (2, "b", ()), (2, "g", (0, 1)), (2, "g", (1, 0))))
        self.assert_same(trimmed(grammar), (1, (0,), ((0, "b", ()),)))
        grammar = (4, (0, 2), ((0, "a", ()), (1, "f", (2,)), (2, "f", (0,)), (2, "f", (3,)), (3, "h", (3,))))
        self.assert_same(trimmed(grammar), (2, (0, 1), ((0, "a", ()), (1, "f", (0,)))))

    def test_drawn_grammars(self):
        draw = Draw(200)
        for k in range(300):
            grammar = (drawn_driven if k % 2 else drawn_grammar)(draw, 1 + draw.below(5), 1 + draw.below(9))
            told = trimmed(grammar)
            self.assert_same(told, oracle.renamed(grammar, sorted(oracle.live_names(grammar))))
            self.assert_same(is_trim(told), True)
            self.assert_same(oracle.lot_among(told, SMALL_TREES[:60]), oracle.lot_among(grammar, SMALL_TREES[:60]))


class TestPlain(Checks, unittest.TestCase):

    def test_examples(self):
        told = plain_of((2, (0,), ((0, "f", (1,)), (1, "a", ()))))
        self.assert_same(told, (2, (1,), ((0, "a", ()), (1, "f", (0,)))))

    def test_plain_ones_stay(self):
        for grammar in (EMPTY, LONG, EVEN, ODD, ONE, FOUND, FAIR_DEEP):
            self.assert_same(plain_of(grammar), grammar)

    def test_it_is_trimmed(self):
        self.assert_same(plain_of(DEAD), (2, (1,), ((0, "a", ()), (1, "f", (0,)))))
        grammar = (3, (2,), ((0, "a", ()), (1, "b", ()), (2, "f", (1,))))
        self.assert_same(plain_of(grammar), (2, (1,), ((0, "b", ()), (1, "f", (0,)))))

    def test_least_trees_count_by_symbols_first(self):
        grammar = (3, (0, 1, 2), ((0, "a", (2,)), (1, "b", ()), (2, "c", ())))
        self.assert_same(plain_of(grammar), (3, (0, 1, 2), ((0, "b", ()), (1, "c", ()), (2, "a", (1,)))))

    def test_however_the_names_are_numbered(self):
        draw = Draw(201)
        many = 0
        for _ in range(150):
            grammar = drawn_driven(draw, 2 + draw.below(4), 3 + draw.below(9))
            told = plain_of(grammar)
            self.assert_same(is_plain(told), True)
            self.assert_same(oracle.lot_among(told, SMALL_TREES[:60]), oracle.lot_among(grammar, SMALL_TREES[:60]))
            for _ in range(3):
                other = oracle.renamed(grammar, draw.some_of(range(grammar[0]), grammar[0]))
                self.assert_same(plain_of(other), told)
                many += other != grammar
        self.assertGreater(many, 200)

    def test_by_hand(self):
        draw = Draw(202)
        for _ in range(100):
            grammar = drawn_driven(draw, 1 + draw.below(3), 2 + draw.below(6))
            trim = oracle.renamed(grammar, sorted(oracle.live_names(grammar)))
            least = oracle.least_by_names(trim, SIX)
            if None not in least:
                names = sorted(range(trim[0]), key=lambda name: oracle.key(least[name]))
                self.assert_same(plain_of(grammar), oracle.renamed(trim, names))


class TestTeachingNumbers(Checks, unittest.TestCase):

    def test_numbers(self):
        for grammar, number in ((EMPTY, 0), (LONG, 2), (EVEN, 2), (ODD, 2), (ONE, 1), (FOUND, 2), (FAIR_DEEP, 3)):
            self.assert_same(teaching_number(grammar), number)

    def test_as_it_is(self):
        self.assert_same(teaching_number(DEAD), 2)
        self.assert_same(teaching_number((40, (), ())), -40)
        self.assert_same(teaching_number((3, (0,), ((0, "a", ()),))), -1)
        self.assert_same(teaching_number((2, (0, 1), ())), 0)

    def test_drawn_grammars(self):
        draw = Draw(203)
        for _ in range(60):
            names, starts, rules = drawn_grammar(draw, 1 + draw.below(9), draw.below(12))
            self.assert_same(teaching_number((names, starts, rules)), len(rules) - names + len(starts))


class TestRuns(Checks, unittest.TestCase):

    def test_examples(self):
        self.assert_same((name_of(LONG, FFA), name_of(LONG, FB), unmade_in(LONG, FB)), (0, None, (0, 1)))

    def test_edges(self):
        self.assert_same((name_of(EMPTY, A), unmade_in(EMPTY, G)), (None, (0, 1, 2, 3)))
        self.assert_same((name_of(LONG, A), unmade_in(LONG, A)), (0, ()))
        self.assert_same(unmade_in(LONG, G), (0, 3))
        self.assert_same(unmade_in(FOUND, FFA), (0,))
        self.assert_same([name_of(EVEN, tree) for tree in (A, FA, FFA)], [0, 1, 0])
        self.assert_same(name_of(LONG, DOT), None)

    def test_names_that_do_not_stand_count(self):
        self.assert_same((name_of(DEAD, A), name_of(DEAD, FA), unmade_in(DEAD, FFA)), (0, 1, (0,)))
        grammar = (3, (), ((0, "a", ()), (2, "f", (0,))))
        self.assert_same((name_of(grammar, FA), unmade_in(grammar, G), takes(grammar, FA)), (2, (0, 3), False))

    def test_drawn_grammars(self):
        draw = Draw(204)
        for _ in range(80):
            grammar = drawn_driven(draw, 1 + draw.below(4), 3 + draw.below(9))
            for tree in draw.some_of(SIX, 20) + [BOTH, WIDE]:
                names = oracle.names_of(grammar, oracle.nested(tree))
                self.assertLessEqual(len(names), 1)
                self.assert_same(name_of(grammar, tree), min(names, default=None))
                self.assert_same(names_making(grammar, tree), tuple(names))
                pieces = oracle.nodes(oracle.nested(tree))
                unmade = [node for node, piece in enumerate(pieces) if not oracle.names_of(grammar, oracle.nested(piece))]
                self.assert_same(unmade_in(grammar, tree), tuple(unmade))

    def test_wrong_tree(self):
        for thing in WRONG_TREES:
            self.assert_not_usable("tree", name_of, LONG, thing)
            self.assert_not_usable("tree", unmade_in, LONG, thing)
            self.assert_not_usable("tree", name_of, EMPTY, thing)


if __name__ == "__main__":
    unittest.main()
