"""Driven, trim, plain and fair grammars: [36]."""

import unittest

from stoodthere.fairness import breach_of, is_driven, is_fair, is_plain, is_trim, name_kinds
from tests import oracle
from tests.checks import Checks
from tests.samples import A, BOLD, BOOKS, DEEP, DOT, EMPTY, EVEN, FA, FAIR_DEEP, FOUND, LONG, MIX, ONE, SMALL_SYMBOLS
from tests.samples import WRONG_GRAMMARS, Draw, drawn_driven, drawn_grammar, trees_up_to

TREES = trees_up_to(SMALL_SYMBOLS, 6)


class TestDrivenTrimPlain(Checks, unittest.TestCase):

    def test_driven(self):
        for grammar in (EMPTY, LONG, EVEN, FOUND, (3, (0,), ()), (2, (), ((0, "a", ()), (1, "a", (0,)), (1, "b", ())))):
            self.assert_same(is_driven(grammar), True)
        for grammar in ((2, (0,), ((0, "a", ()), (1, "a", ()))), (2, (0,), ((0, "f", (0, 1)), (1, "f", (0, 1))))):
            self.assert_same(is_driven(grammar), False)
        self.assert_same(is_driven((2, (0,), ((0, "f", (0, 1)), (1, "f", (1, 0))))), True)

    def test_trim(self):
        for grammar in (EMPTY, LONG, EVEN, FOUND, FAIR_DEEP, (2, (0, 1), ((0, "a", ()), (1, "a", ())))):
            self.assert_same(is_trim(grammar), True)
        for grammar in ((1, (), ()), (1, (0,), ()), (1, (), ((0, "a", ()),)), (1, (0,), ((0, "f", (0,)),)),
                        (2, (0,), ((0, "a", ()), (1, "b", ()))), (2, (0,), ((0, "a", ()), (0, "f", (1,)))),
                        (2, (0,), ((0, "a", ()), (1, "f", (0,)))), (3, (2,), ((0, "a", ()), (2, "b", ()), (2, "g", (0, 1)))),
                        (2, (0, 1), ((0, "a", ()),))):
            self.assert_same(is_trim(grammar), False)

    def test_a_name_below_an_empty_part_does_not_stand(self):
        """Name 0 makes a, but only rules with the empty name 1 lead to it."""
        grammar = (3, (2,), ((0, "a", ()), (2, "b", ()), (2, "g", (0, 1)), (2, "g", (1, 0))))
        self.assert_same((is_trim(grammar), breach_of(BOLD, grammar)), (False, ("trim", 0)))

    def test_plain(self):
        for grammar in (EMPTY, LONG, EVEN, FOUND, FAIR_DEEP):
            self.assert_same(is_plain(grammar), True)
        for grammar in ((2, (0,), ((0, "f", (1,)), (1, "a", ()))), (2, (0, 1), ((0, "b", ()), (1, "a", ()))),
                        (2, (0, 1), ((0, "a", ()), (1, "a", ()))), (1, (), ((0, "a", ()),)), (2, (0,), ((0, "a", ()),)),
                        (3, (2,), ((0, "a", ()), (1, "f", (0,)), (2, "b", ()), (2, "f", (1,)), (2, "f", (2,))))):
            self.assert_same(is_plain(grammar), False)
        self.assert_same(is_plain((2, (1,), ((0, "z", ()), (1, "a", (0,))))), True)

    def test_drawn_grammars(self):
        draw = Draw(90)
        seen = set()
        for k in range(400):
            grammar = (drawn_driven if k % 2 else drawn_grammar)(draw, 1 + draw.below(3), 2 + draw.below(7))
            names, _, rules = grammar
            trim = oracle.live_names(grammar) == set(range(names))
            driven = len({rule[1:] for rule in rules}) == len(rules)
            self.assert_same(is_trim(grammar), trim)
            self.assert_same(is_driven(grammar), driven)
            if trim and driven:
                least = oracle.least_by_names(grammar, TREES)
                plain = None not in least and list(least) == sorted(least, key=oracle.key)
                if None not in least:
                    self.assert_same(is_plain(grammar), plain)
                    seen.add(plain)
            else:
                self.assert_same(is_plain(grammar), False)
        self.assertEqual(seen, {True, False})


class TestFair(Checks, unittest.TestCase):

    def test_example(self):
        self.assert_same(breach_of(BOLD, (2, (0, 1), ((0, "a", ()), (1, "b", ())))), ("single", 1))

    def test_fair_grammars(self):
        for book, grammar in ((BOLD, EMPTY), (MIX, EMPTY), (BOLD, LONG), (DEEP, FAIR_DEEP), (BOLD, FOUND), (DEEP, ONE)):
            self.assert_same((breach_of(book, grammar), is_fair(book, grammar)), (None, True))

    def test_name_kinds(self):
        self.assert_same(name_kinds(BOLD, EMPTY), ())
        self.assert_same(name_kinds(DEEP, FAIR_DEEP), ((A,), ((("f", 1), ("_", 0)),)))
        self.assert_same(name_kinds(MIX, (3, (0,), ((0, "f", (1,)), (1, "a", ())))), (
            ((("f", 1), ("_", 0)), 0, 2), (A, 5, 1), None))
        self.assert_same(name_kinds(BOLD, (2, (0,), ((0, "f", (0,)),))), (None, None))
        self.assert_same(name_kinds(DEEP, (1, (), ((0, ".", ()), (0, "f", (0,))))), ((DOT,),))

    def test_trim(self):
        self.assert_same(breach_of(BOLD, (3, (0,), ((0, "a", ()), (1, "b", ()), (2, "c", ())))), ("trim", 1))
        self.assert_same(breach_of(BOLD, (3, (0,), ((0, "a", ()), (0, "f", (1,)), (1, "b", ())))), ("trim", 2))
        self.assert_same(breach_of(BOLD, (1, (0,), ())), ("trim", 0))

    def test_driven(self):
        rules = ((0, "a", ()), (1, "a", ()), (1, "f", (0,)), (2, "b", ()), (2, "f", (0,)))
        self.assert_same(breach_of(BOLD, (3, (0, 1, 2), rules)), ("driven", 1))
        self.assert_same(breach_of(BOLD, (3, (0, 1, 2), rules[:1] + rules[2:])), ("driven", 3))
        self.assert_same(breach_of(BOLD, (4, (0, 1, 2), rules)), ("trim", 3))

    def test_kinded(self):
        self.assert_same(breach_of(DEEP, LONG), ("kinded", 1))
        self.assert_same(breach_of(DEEP, FOUND), ("kinded", 1))
        groups = (("groups", (("a", 1), ("b", 1)), 0),)
        self.assert_same(breach_of(groups, FOUND), None)
        # The least tree of name 0 is a: the rule for b is the first one of another kind, though b is told ahead.
        later = (1, (0,), ((0, "a", ()), (0, "a", (0,)), (0, "b", ())))
        self.assert_same(breach_of(DEEP, later), ("kinded", 1))
        self.assert_same(breach_of((("groups", (("b", 1),), 0),), later), ("kinded", 2))
        # The least tree of name 1 comes by its second rule, so its first one is of another kind.
        self.assert_same(breach_of(DEEP, (2, (1,), ((0, "z", ()), (1, "a", (0,)), (1, "b", ())))), ("kinded", 1))

    def test_kinded_by_tables(self):
        table = (("table", (("a", (), 1), ("f", (1,), 2), ("f", (2,), 1)), 0),)
        self.assert_same(breach_of(table, LONG), ("kinded", 1))
        self.assert_same(breach_of(table, EVEN), None)

    def test_turned(self):
        grammar = (3, (2,), ((0, "a", ()), (1, "b", ()), (2, "f", (0,)), (2, "f", (1,))))
        self.assert_same(breach_of(BOLD, grammar), ("turned", 3))
        self.assert_same(breach_of(DEEP, grammar), None)
        groups = (("groups", (("a", 1), ("b", 2)), 0),)
        self.assert_same(breach_of(groups, grammar), None)

    def test_turned_looks_at_one_part_alone(self):
        leaves = ((0, "a", ()), (1, "b", ()))
        for pair, wanted in ((((0, 0), (0, 1)), 3), (((0, 0), (1, 0)), 3), (((0, 1), (1, 0)), None), (((0, 0), (1, 1)), None),
                             (((0, 1), (1, 1)), 3)):
            rules = leaves + tuple((2, "g", parts) for parts in pair)
            told = ("turned", wanted) if wanted else None
            self.assert_same(breach_of(BOLD, (3, (2,), rules)), told)
        rules = leaves + ((2, "g", (0, 0)), (2, "g", (1, 1)), (2, "h", (0, 1)), (2, "h", (1, 1)))
        self.assert_same(breach_of(BOLD, (3, (2,), rules)), ("turned", 5))

    def test_turned_asks_the_same_result_word_and_many(self):
        leaves = ((0, "a", ()), (1, "b", ()))
        for rules in (((2, "f", (0,)), (3, "f", (1,))), ((2, "f", (0,)), (2, "h", (1,)), (3, "c", ())),
                      ((2, "f", (0,)), (2, "f", (0, 1)), (3, "c", ()))):
            grammar = (5, (4,), leaves + rules + ((4, "w", (0, 1, 2, 3)),))
            self.assert_same(breach_of(BOLD, grammar), None)

    def test_turned_with_later_rules(self):
        rules = ((0, "a", ()), (1, "b", ()), (2, "c", ()), (3, "g", (0, 0)), (3, "g", (1, 1)), (3, "g", (2, 1)))
        self.assert_same(breach_of(BOLD, (4, (3,), rules)), ("turned", 5))
        rules = rules[:4] + ((3, "g", (1, 2)), (3, "g", (2, 0)))
        self.assert_same(breach_of(BOLD, (4, (3,), rules)), ("turned", 5))

    def test_single(self):
        rules = ((0, "a", ()), (1, "b", ()), (2, "f", (0,)), (2, "f", (1,)))
        self.assert_same(breach_of(DEEP, (3, (0, 1, 2), rules)), None)
        groups = (("groups", (("f", 1),), 0),)
        other = ((0, "a", ()), (1, "b", ()), (2, "f", (0,)))
        self.assert_same(breach_of(groups, (3, (0, 2), other)), ("trim", 1))
        self.assert_same(breach_of(groups, (3, (0, 1, 2), other)), ("single", 1))
        self.assert_same(breach_of((("groups", (("b", 1),), 0),), (3, (0, 1, 2), other)), ("single", 2))
        self.assert_same(breach_of(BOLD, (2, (0, 1), EVEN[2])), ("single", 1))

    def test_the_first_of_the_list_is_told(self):
        """One grammar with every breach; each is told as soon as the ones ahead of it are taken away."""
        rules = ((0, "a", ()), (0, "f", (0,)), (1, "a", ()), (2, "b", ()), (3, "f", (1,)), (3, "f", (2,)))
        self.assert_same(breach_of(DEEP, (5, (0, 1, 2, 3), rules)), ("trim", 4))
        self.assert_same(breach_of(DEEP, (4, (0, 1, 2, 3), rules)), ("driven", 2))
        rules = rules[:2] + ((1, "c", ()),) + rules[3:]
        self.assert_same(breach_of(DEEP, (4, (0, 1, 2, 3), rules)), ("kinded", 1))
        self.assert_same(breach_of(BOLD, (4, (0, 1, 2, 3), rules)), ("turned", 5))
        self.assert_same(breach_of(BOLD, (4, (0, 1, 2, 3), rules[:4] + ((3, "f", (1,)),))), ("single", 1))

    def test_drawn_grammars(self):
        draw = Draw(91)
        seen = {}
        for k in range(700):
            book = BOOKS[k % len(BOOKS)]
            make = drawn_grammar if k % 5 == 0 else drawn_driven
            names, starts, rules = make(draw, 1 + draw.below(4), 2 + draw.below(9))
            live = sorted(oracle.live_names((names, starts, rules)))
            grammar = (names, starts, rules)
            if k % 4 and live:
                grammar = oracle.renamed(grammar, live)
            wanted = oracle.breach(book, grammar, TREES)
            if wanted == "too long":
                continue
            seen[wanted and wanted[0]] = seen.get(wanted and wanted[0], 0) + 1
            self.assert_same(breach_of(book, grammar), wanted)
            self.assert_same(is_fair(book, grammar), wanted is None)
            if wanted is None or wanted[0] != "trim":
                least = oracle.least_by_names(grammar, TREES)
                self.assert_same(name_kinds(book, grammar), tuple(oracle.kind(book, tree) for tree in least))
        for word in ("trim", "driven", "kinded", "turned", "single", None):
            self.assertGreater(seen.get(word, 0), 2, seen)

    def test_wrong_grammar(self):
        for thing in WRONG_GRAMMARS:
            self.assert_not_usable("grammar", name_kinds, BOLD, thing)
            self.assert_not_usable("grammar", is_fair, BOLD, thing)
            self.assert_not_usable("grammar", breach_of, BOLD, thing)


if __name__ == "__main__":
    unittest.main()
