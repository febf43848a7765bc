"""Joins as papers of the closure, and leaving out what they do not need: [47]."""

import unittest

from stoodthere.joinchecker import lets_joins
from stoodthere.joinlists import joins_of
from stoodthere.joinpapers import join_paper, short_joins
from stoodthere.ledtrees import is_led
from tests import oracle
from tests.checks import Checks
from tests.samples import A, B, BOLD, BOOKS, DEEP, FA, FB, FFA, G, SMALL_SYMBOLS, SMALL_TREES, WRONG_SENTENCES
from tests.samples import WRONG_TREES, Draw, drawn_sentences, trees_up_to

THREE = (("root", A, FA, 0), ("root", A, FB, 0), ("down", FA, FB, 0))
GIVEN = (A, FA, FB)
SIX = trees_up_to(SMALL_SYMBOLS, 6)


def do_lead(book, given, joins, tree):
    """Whether these are joins, made one after the other, that lead to tree, by the definition."""
    classes = oracle.Classes(book, given)
    for join in joins:
        if classes.fault(join) is not None:
            return False
        classes.make(join)
    return classes.leads_to(tree)


def short_by_hand(book, given, joins, tree):
    for k in reversed(range(len(joins))):
        others = joins[:k] + joins[k + 1:]
        if do_lead(book, given, others, tree):
            joins = others
    return joins


class TestJoinPapers(Checks, unittest.TestCase):

    def test_examples(self):
        self.assertEqual(len(join_paper(BOLD, (A, FA), FFA)), 1)
        self.assert_same(join_paper(DEEP, (A, FA), FFA), None)

    def test_no_sentences_and_one_alone(self):
        for book in BOOKS:
            for tree in (A, FFA, G):
                self.assert_same(join_paper(book, (), tree), None)
                self.assert_same(join_paper(book, (G,), tree), () if tree == G else None)

    def test_drawn_sentences(self):
        draw = Draw(170)
        papers = 0
        for book in BOOKS:
            for _ in range(8):
                given = drawn_sentences(draw, 1 + draw.below(4), SMALL_TREES[:80])
                _, classes = oracle.saturated(book, given)
                for tree in draw.some_of(SIX, 10) + list(given):
                    paper = join_paper(book, given, tree)
                    self.assertEqual(paper is not None, classes.leads_to(tree))
                    if paper is not None:
                        papers += 1
                        self.assertIs(type(paper), tuple)
                        self.assertTrue(do_lead(book, given, paper, tree))
                        self.assert_same(is_led(book, given, paper, tree), True)
        self.assertGreater(papers, 200)

    def test_wrong_parameters(self):
        for thing in WRONG_SENTENCES:
            self.assert_not_usable("given", join_paper, BOLD, thing, A)
            self.assert_not_usable("given", join_paper, BOLD, thing, None)
        for thing in WRONG_TREES:
            self.assert_not_usable("tree", join_paper, BOLD, GIVEN, thing)
            self.assert_not_usable("tree", join_paper, BOLD, (), thing)


class TestShortJoins(Checks, unittest.TestCase):

    def test_examples(self):
        self.assert_same(short_joins(BOLD, GIVEN, THREE, FFA), (("root", A, FA, 0),))

    def test_sentences_need_none(self):
        for tree in GIVEN:
            self.assert_same(short_joins(BOLD, GIVEN, THREE, tree), ())
        self.assert_same(short_joins(BOLD, GIVEN, (), A), ())

    def test_from_the_last_to_the_first(self):
        joins = (("root", A, FA, 0), ("root", FB, FA, 0), ("down", FA, FB, 0))
        self.assert_same(short_joins(BOLD, GIVEN, joins, B), joins[1:])
        self.assert_same(short_joins(BOLD, GIVEN, joins, (("f", 1),) + FB), joins[:2])
        # The last one alone would be enough for f(f(x1)), but so are the first two, and it is tried ahead of them.
        words = [(("x" + str(k), 0),) for k in range(3)]
        row = tuple(words) + tuple((("f", 1),) + word for word in words)
        roots = (("root", row[0], row[3], 0), ("root", row[1], row[0], 0), ("root", row[4], row[1], 0))
        self.assert_same(short_joins(BOLD, row, roots, (("f", 1),) + row[3]), roots[:1])
        self.assert_same(short_joins(BOLD, row, roots, (("f", 1),) + row[4]), roots[:2])
        self.assert_same(short_joins(BOLD, row, roots[2:], (("f", 1),) + row[4]), roots[2:])

    def test_what_others_need_stays(self):
        ffb = (("f", 1),) + FB
        given = (A, B, FFA, ffb, (("h", 1),) + FFA)
        joins = (("root", A, B, 0), ("up", FA, FB, 0), ("up", FFA, ffb, 0), ("root", A, FFA, 0))
        self.assert_same(short_joins(BOLD, given, joins, (("h", 1),) + ffb), joins[:1])
        self.assert_same(short_joins(BOLD, given, joins, ffb), ())

    def test_drawn_joins(self):
        draw = Draw(171)
        shorter = 0
        for book in BOOKS:
            for _ in range(6):
                given = drawn_sentences(draw, 2 + draw.below(4), SMALL_TREES[:60])
                joins, classes = oracle.saturated(book, given, draw)
                for joins in (joins, joins_of(book, given)):
                    for tree in draw.some_of([tree for tree in SIX if classes.leads_to(tree)], 4):
                        wanted = short_by_hand(book, given, joins, tree)
                        self.assert_same(short_joins(book, given, joins, tree), wanted)
                        shorter += wanted not in ((), joins)
        self.assertGreater(shorter, 20)

    def test_joins_that_do_not_lead_as_far_as_all(self):
        self.assert_same(short_joins(BOLD, GIVEN, THREE[:1], FFA), THREE[:1])
        self.assert_not_usable("tree", short_joins, BOLD, GIVEN, THREE[1:2], FFA)

    def test_many_joins(self):
        words = tuple((("a" + str(k), 0),) for k in range(59))
        given = words + ((("f", 1), ("a58", 0)),)
        joins = tuple(("root", words[k], words[k + 1], 0) for k in range(58)) + (("root", words[0], given[59], 0),)
        self.assert_same(short_joins(BOLD, given, joins, (("f", 1), ("a56", 0))), joins[56:58])
        self.assert_same(len(short_joins(BOLD, given, joins, (("f", 1),) + given[59])), 59)
        self.assert_same(len(lets_joins(BOLD, given, joins)), 1)

    def test_wrong_parameters(self):
        for thing in WRONG_SENTENCES:
            self.assert_not_usable("given", short_joins, BOLD, thing, THREE, FFA)
            self.assert_not_usable("given", short_joins, BOLD, thing, None, None)
        for thing in (None, True, 0, "", [], (None,), [THREE[0]], (THREE[0], THREE[0]), (THREE[2],), THREE[0], "root"):
            self.assert_not_usable("joins", short_joins, BOLD, GIVEN, thing, FFA)
            self.assert_not_usable("joins", short_joins, BOLD, GIVEN, thing, None)
        for thing in WRONG_TREES + (G, (("c", 0),)):
            self.assert_not_usable("tree", short_joins, BOLD, GIVEN, THREE, thing)
        self.assert_not_usable("tree", short_joins, BOLD, GIVEN, (), FFA)
        self.assert_not_usable("tree", short_joins, BOLD, (), (), A)


if __name__ == "__main__":
    unittest.main()
