"""What teaches a grammar, and bounds of questions: [76] and [77]."""

import unittest

from stoodthere.found import grammar_of
from stoodthere.lessons import lessons_of
from stoodthere.teaching import is_taught, question_bound, unused_rules
from tests import oracle
from tests.checks import Checks
from tests.samples import A, B, BOLD, BOOKS, DEEP, EMPTY, EVEN, FA, FAIR_DEEP, FB, FFA, FOUND, G, LONG, ODD, ONE
from tests.samples import SMALL_TREES, WRONG_GRAMMARS, WRONG_SENTENCES, Draw, drawn_driven, drawn_sentences

# Each is not fair for BOLD: not trim, not driven, not turned, not single.
UNFAIR = (
    (2, (0,), ((0, "a", ()),)), (2, (0, 1), ((0, "a", ()), (1, "a", ()))), (2, (0, 1), ((0, "a", ()), (1, "b", ()))),
    (3, (2,), ((0, "a", ()), (1, "b", ()), (2, "f", (0,)), (2, "f", (1,)))),
)


class TestTaught(Checks, unittest.TestCase):

    def test_examples(self):
        self.assert_same((is_taught(BOLD, (FFA, FA), LONG), is_taught(BOLD, (A,), LONG)), (True, False))

    def test_edges(self):
        self.assert_same((is_taught(BOLD, (), EMPTY), is_taught(BOLD, (), ONE), is_taught(BOLD, (A,), EMPTY)),
                         (True, False, False))
        # Names may be numbered otherwise; trees outside the lot teach another one.
        other = (2, (0,), ((0, "f", (1,)), (1, "a", ()), (1, "b", ())))
        for fair in (FOUND, other):
            self.assert_same((is_taught(BOLD, (FA, FB), fair), is_taught(BOLD, (FA,), fair)), (True, False))
            self.assert_same(is_taught(BOLD, (FA, FB, A), fair), False)
        self.assert_same((is_taught(BOLD, (A, FFA), EVEN), is_taught(BOLD, (FA, (("f", 1),) + FFA), ODD)), (True, True))
        self.assert_same((is_taught(DEEP, (A, FA), FAIR_DEEP), is_taught(DEEP, (A, FA, FFA), FAIR_DEEP)), (False, True))

    def test_drawn_sentences(self):
        draw = Draw(450)
        seen = {True: 0, False: 0}
        for k in range(150):
            book = BOOKS[k % len(BOOKS)]
            first = drawn_sentences(draw, 1 + draw.below(4), SMALL_TREES[:40])
            second = tuple(draw.some_of(first, len(first) - draw.below(2))) + tuple(draw.some_of(SMALL_TREES[:20], draw.below(2)))
            second = tuple(dict.fromkeys(second))
            fair = grammar_of(book, first)
            _, classes = oracle.saturated(book, second)
            within = all(oracle.names_of(fair, oracle.nested(tree)) & set(fair[1]) for tree in second)
            wanted = within and all(classes.leads_to(tree) for tree in first)
            seen[wanted] += 1
            self.assert_same(is_taught(book, second, fair), wanted)
        self.assertGreater(min(seen.values()), 20)

    def test_wrong_parameters(self):
        for thing in WRONG_SENTENCES:
            self.assert_not_usable("sentences", is_taught, BOLD, thing, LONG)
            self.assert_not_usable("sentences", is_taught, BOLD, thing, None)
        for thing in WRONG_GRAMMARS + UNFAIR:
            self.assert_not_usable("fair", is_taught, BOLD, (A,), thing)
            self.assert_not_usable("fair", question_bound, BOLD, thing)
        for function in (lambda fair: is_taught(DEEP, (A,), fair), lambda fair: question_bound(DEEP, fair)):
            self.assert_not_usable("fair", function, LONG)


class TestUnusedRules(Checks, unittest.TestCase):

    def test_examples(self):
        self.assert_same((unused_rules(LONG, (A,)), unused_rules(LONG, ())), ((1,), (0, 1)))

    def test_by_hand(self):
        self.assert_same((unused_rules(FOUND, (FA,)), unused_rules(FOUND, (FB, FA))), ((1,), ()))
        self.assert_same((unused_rules(EVEN, (A,)), unused_rules(EVEN, (FFA,))), ((1, 2), ()))
        self.assert_same((unused_rules(EMPTY, ()), unused_rules(FAIR_DEEP, (FA,))), ((), (2,)))
        # Rules of names that make nothing, or do not stand, are used by no tree.
        grammar = (4, (1,), ((0, "a", ()), (1, "f", (0,)), (2, "f", (2,)), (3, "g", (0, 2)), (3, "h", (0,))))
        self.assert_same(unused_rules(grammar, (FA,)), (2, 3, 4))

    def test_drawn_grammars(self):
        draw = Draw(451)
        for _ in range(150):
            grammar = drawn_driven(draw, 1 + draw.below(4), 3 + draw.below(8))
            lot = oracle.lot_among(grammar, SMALL_TREES)
            trees = tuple(draw.some_of(lot, draw.below(4)))
            used = set().union(*[oracle.used_rules(grammar, tree) for tree in trees])
            self.assert_same(unused_rules(grammar, trees), tuple(k for k in range(len(grammar[2])) if k not in used))

    def test_wrong_sentences(self):
        for thing in WRONG_SENTENCES + ((B,), (A, B), (G,), (FA, FB)):
            self.assert_not_usable("sentences", unused_rules, LONG, thing)
        # Name 1 makes f(a), but no start does.
        self.assert_not_usable("sentences", unused_rules, EVEN, (FA,))
        self.assert_not_usable("sentences", unused_rules, EMPTY, (A,))


class TestQuestionBounds(Checks, unittest.TestCase):

    def test_examples(self):
        fair = (2, (1,), ((0, "a", ()), (1, "f", (0,))))
        self.assert_same((question_bound(BOLD, LONG), question_bound(BOLD, fair)), (1, 1))

    def test_by_hand(self):
        self.assert_same((question_bound(BOLD, EMPTY), question_bound(BOLD, ONE)), (0, 0))
        # Two names of one kind with three rules: 1 + 1 * 2.
        self.assert_same((question_bound(BOLD, FOUND), question_bound(BOLD, EVEN), question_bound(BOLD, ODD)), (3, 3, 3))
        # By this book each kind has one name: 0 + 0 and 0 + 1.
        self.assert_same(question_bound(DEEP, FAIR_DEEP), 1)
        book = (("groups", (("f", 1),), 0),)
        self.assert_same(question_bound(book, FOUND), 1)

    def test_drawn_sentences(self):
        draw = Draw(452)
        for k in range(100):
            book = BOOKS[k % len(BOOKS)]
            fair = grammar_of(book, drawn_sentences(draw, 1 + draw.below(5)))
            least = oracle.least_by_names(fair, SMALL_TREES)
            kinds = [oracle.kind(book, tree) for tree in least]
            total = 0
            for own in set(kinds):
                n = kinds.count(own)
                r = len([rule for rule in fair[2] if kinds[rule[0]] == own])
                total += n * (n - 1) // 2 + (r - n) * n
            self.assert_same(question_bound(book, fair), total)
            self.assertEqual(is_taught(book, lessons_of(book, fair), fair), True)


if __name__ == "__main__":
    unittest.main()
