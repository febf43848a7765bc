"""Grammars, which names make a tree, and least trees: [34] and [35]."""

import unittest

from stoodthere.grammarkinds import is_grammar
from stoodthere.leasttrees import least_trees, lot_least
from stoodthere.making import names_making, takes
from tests import oracle
from tests.checks import Checks
from tests.samples import A, B, BOTH, DOT, EMPTY, EVEN, FA, FFA, G, LONG, SMALL_SYMBOLS, SMALL_TREES, WIDE, WRONG_TREES
from tests.samples import Draw, drawn_driven, drawn_grammar, trees_up_to

A0 = (0, "a", ())
F00 = (0, "f", (0,))
DEAD = (4, (1, 3), ((0, "a", ()), (1, "f", (0,)), (2, "f", (2,)), (3, "g", (0, 2))))


class TestIsGrammar(Checks, unittest.TestCase):

    def test_grammars(self):
        grammars = (
            EMPTY, LONG, EVEN, DEAD, (5, (), ()), (2, (0, 1), ()), (1, (), (A0, F00)), (10 ** 59, (3, 10 ** 58), ()),
            (1, (0,), ((0, ".", ()), (0, "w", (0, 0, 0, 0)))), (1, (0,), ((0, "f", ()), (0, "f", (0,)), (0, "f", (0, 0)))),
            (3, (0, 2), ((0, "b", ()), (1, "a", ()), (1, "a", (0,)), (1, "a", (0, 0)), (1, "a", (1,)), (2, "a", ()))),
        )
        for grammar in grammars:
            self.assert_same(is_grammar(grammar), True)
        draw = Draw(80)
        for _ in range(200):
            self.assert_same(is_grammar(drawn_grammar(draw, 1 + draw.below(5), draw.below(20))), True)

    def test_beyond_the_limits(self):
        many = tuple((k, "f", (k,)) for k in range(600))
        self.assert_same(is_grammar((600, tuple(range(600)), many)), True)
        self.assert_same(is_grammar((599, (), many)), False)

    def test_no_triples(self):
        for thing in (None, True, 0, "", (), [], (1,), (1, (0,)), [1, (0,), (A0,)], (1, (0,), (A0,), ()), "abc", A, FA):
            self.assert_same(is_grammar(thing), False)

    def test_names(self):
        for names in (None, True, False, -1, "1", (), [], (1,)):
            self.assert_same(is_grammar((names, (), ())), False)
            self.assert_same(is_grammar((names, (0,), (A0,))), False)

    def test_starts(self):
        for starts in (None, True, 0, "", [], [0], (1,), (-1,), (True,), (False,), (None,), ("0",), (0, 0), ((0,),)):
            self.assert_same(is_grammar((1, starts, (A0,))), False)
        for starts in ((1, 0), (0, 0), (1, 1), (0, 1, 1), (0, 2), (0, True)):
            self.assert_same(is_grammar((2, starts, (A0,))), False)

    def test_rules(self):
        for rules in (None, True, 0, "", [], [A0], A0, (None,), ((),), ((0, "a"),), ((0, "a", (), ()),), ([0, "a", ()],)):
            self.assert_same(is_grammar((1, (0,), rules)), False)
        for rule in ((1, "a", ()), (-1, "a", ()), (False, "a", ()), (None, "a", ()), ("0", "a", ()), (0, "A", ()),
                     (0, "", ()), (0, "?", ()), (0, "_", ()), (0, "a" * 17, ()), (0, None, ()), (0, ("a",), ()),
                     (0, "a", None), (0, "a", 0), (0, "a", []), (0, "a", [0]), (0, "a", (1,)), (0, "a", (-1,)),
                     (0, "a", (False,)), (0, "a", (None,)), (0, "a", ("0",)), (0, "a", (0, 1)), (0, "a", (0,) * 5),
                     (0, ".", (0,)), (0, ".", (0, 0)), (0, "a", ((0,),)), ("a", 0, ())):
            self.assert_same(is_grammar((1, (0,), (rule,))), False)
            self.assert_same(is_grammar((1, (), (F00, rule))), False)

    def test_sequence_of_rules(self):
        rules = ((0, "a", ()), (0, "b", (1,)), (0, "c", (0,)), (1, "a", (0, 1)), (1, "a", (1,)))
        self.assert_same(is_grammar((2, (0,), rules)), True)
        for k in range(4):
            swapped = rules[:k] + (rules[k + 1], rules[k]) + rules[k + 2:]
            self.assert_same(is_grammar((2, (0,), swapped)), False)
            self.assert_same(is_grammar((2, (0,), rules[:k] + (rules[k],) + rules[k:])), False)


class TestMaking(Checks, unittest.TestCase):

    def test_edges(self):
        self.assert_same((names_making(EMPTY, A), takes(EMPTY, A)), ((), False))
        self.assert_same((names_making(LONG, FFA), takes(LONG, FFA), takes(LONG, B)), ((0,), True, False))
        self.assert_same((names_making(EVEN, FA), takes(EVEN, FA), takes(EVEN, FFA)), ((1,), False, True))
        self.assert_same((takes(LONG, (("f", 0),)), takes(LONG, (("f", 2), ("a", 0), ("a", 0)))), (False, False))
        self.assert_same(takes(LONG, (("a", 1), ("a", 0))), False)

    def test_names_beside_the_lot(self):
        self.assert_same((names_making(DEAD, A), takes(DEAD, A)), ((0,), False))
        grammar = (3, (1,), ((0, "a", ()), (1, "b", ()), (2, "a", ()), (2, "f", (0,))))
        self.assert_same((names_making(grammar, A), names_making(grammar, FA)), ((0, 2), (2,)))
        self.assert_same((takes(grammar, A), takes(grammar, B)), (False, True))

    def test_several_starts(self):
        grammar = (3, (0, 2), ((0, "a", ()), (1, "b", ()), (2, "f", (1,)), (2, "f", (2,))))
        told = tuple(takes(grammar, tree) for tree in (A, B, FA, (("f", 1),) + B, (("f", 1), ("f", 1)) + B))
        self.assert_same(told, (True, False, False, True, True))
        self.assert_same(takes((1, (), ((0, "a", ()),)), A), False)

    def test_drawn_grammars(self):
        draw = Draw(81)
        trees = SMALL_TREES[:50] + [BOTH, G]
        for _ in range(60):
            grammar = drawn_grammar(draw, 1 + draw.below(4), 3 + draw.below(12))
            for tree in trees:
                names = oracle.names_of(grammar, oracle.nested(tree))
                self.assert_same(names_making(grammar, tree), tuple(sorted(names)))
                self.assert_same(takes(grammar, tree), bool(names & set(grammar[1])))

    def test_four_parts_and_silent_word(self):
        rules = ((0, ".", ()), (1, "a", ()), (1, "b", ()), (1, "c", ()), (1, "g", (1, 1)), (2, "f", (0,)),
                 (2, "w", (1, 2, 1, 1)))
        grammar = (3, (2,), rules)
        self.assert_same(takes(grammar, WIDE), True)
        self.assert_same((names_making(grammar, DOT), takes(grammar, DOT)), ((0,), False))

    def test_long_trees(self):
        for k in range(380, 400):
            self.assert_same(takes(EVEN, (("f", 1),) * k + A), k % 2 == 0)

    def test_wrong_tree(self):
        for thing in WRONG_TREES:
            self.assert_not_usable("tree", names_making, LONG, thing)
            self.assert_not_usable("tree", takes, LONG, thing)
            self.assert_not_usable("tree", takes, EMPTY, thing)


class TestLeastTrees(Checks, unittest.TestCase):

    def test_edges(self):
        self.assert_same((least_trees(EMPTY), lot_least(EMPTY)), ((), None))
        self.assert_same((least_trees(LONG), lot_least(LONG)), ((A,), A))
        self.assert_same((least_trees(EVEN), lot_least(EVEN)), ((A, FA), A))
        self.assert_same((least_trees(DEAD), lot_least(DEAD)), ((A, FA, None, None), FA))
        self.assert_same((least_trees((3, (0, 2), ())), lot_least((3, (0, 2), ()))), ((None,) * 3, None))
        self.assert_same(lot_least((1, (), ((0, "a", ()),))), None)
        self.assert_same(lot_least((2, (0, 1), ((0, "f", (1,)), (1, "b", ())))), B)

    def test_drawn_grammars(self):
        draw = Draw(82)
        trees = trees_up_to(SMALL_SYMBOLS, 6)
        for k in range(60):
            make = drawn_driven if k % 2 else drawn_grammar
            grammar = make(draw, 1 + draw.below(4), 3 + draw.below(9))
            by_hand = oracle.least_by_names(grammar, trees)
            told = least_trees(grammar)
            self.assertEqual(len(told), grammar[0])
            for name in range(grammar[0]):
                if told[name] is None or len(told[name]) <= 6:
                    self.assert_same(told[name], by_hand[name])
                else:
                    self.assert_same(by_hand[name], None)
                    self.assertIn(name, names_making(grammar, told[name]))
            starts = [told[start] for start in grammar[1] if told[start] is not None]
            self.assert_same(lot_least(grammar), min(starts, key=oracle.key, default=None))

    def test_fewer_symbols_count_first(self):
        rules = ((0, "z", ()), (1, "a", (0, 0)), (1, "z", (0,)), (2, "a", (1,)), (2, "c", (0, 0)))
        z = (("z", 0),)
        self.assert_same(least_trees((3, (2,), rules)), (z, (("z", 1),) + z, (("a", 1), ("z", 1)) + z))

    def test_a_leaf_counts_ahead_of_all_longer_trees(self):
        z = (("z", 0),)
        self.assert_same(least_trees((2, (1,), ((0, "a", ()), (1, "f", (0,)), (1, "z", ())))), (A, z))
        self.assert_same(lot_least((2, (1,), ((0, "a", ()), (1, "f", (0,)), (1, "z", ())))), z)

    def test_ties(self):
        rules = ((0, "b", ()), (0, "c", ()), (1, "a", (2, 0)), (1, "a", (0, 2)), (2, "a", ()))
        self.assert_same(least_trees((3, (1,), tuple(sorted(rules)))), (B, (("a", 2),) + A + B, A))
        rules = ((0, "a", ()), (1, "a", ()), (2, "f", (0,)), (2, "f", (1,)))
        self.assert_same(least_trees((3, (2,), rules)), (A, A, FA))

    def test_one_part_twice(self):
        rules = ((0, "a", ()), (1, "g", (0, 0)), (2, "w", (1, 1, 0, 1)))
        gaa = (("g", 2),) + A + A
        self.assert_same(least_trees((3, (2,), rules)), (A, gaa, (("w", 4),) + gaa + gaa + A + gaa))

    def test_long_least_trees(self):
        many = 40
        rules = ((0, "a", ()),) + tuple((k, "f", (k - 1,)) for k in range(1, many))
        told = least_trees((many, (many - 1,), rules))
        self.assert_same(told[-1], (("f", 1),) * (many - 1) + A)
        self.assert_same(lot_least((many, (many - 1,), rules)), told[-1])
        doubled = ((0, "a", ()),) + tuple((k, "g", (k - 1, k - 1)) for k in range(1, 8))
        self.assert_same(len(lot_least((8, (7,), doubled))), 255)


if __name__ == "__main__":
    unittest.main()
