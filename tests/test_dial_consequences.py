"""What follows from the points on quarrels, leans, dials and what a tree brings: each sentence of [67]."""

import unittest

from stoodthere.brings import brings_of
from stoodthere.dials import boldest_of, doubt_of, steps_of
from stoodthere.found import grammar_of
from stoodthere.leans import lean_of
from stoodthere.making import takes
from stoodthere.partings import lies_within
from stoodthere.piecelists import levels_of
from stoodthere.quarrels import quarrel_of
from stoodthere.trims import teaching_number
from stoodthere.verdicts import odds_of
from tests import oracle
from tests.checks import Checks
from tests.samples import A, BOLD, BOOKS, SMALL_SYMBOLS, SMALL_TREES, Draw, drawn_sentences, trees_up_to

FIVE = trees_up_to(SMALL_SYMBOLS, 5)
TREES = SMALL_TREES[:30]


def cases(seed, many, most=6):
    draw = Draw(seed)
    for book in BOOKS:
        for _ in range(many):
            yield draw, book, drawn_sentences(draw, draw.below(most), TREES), drawn_sentences(draw, draw.below(5), TREES)


def some_left_out(trees):
    """All tuples of trees with one or several left out."""
    for left_out in range(1, 2 ** len(trees)):
        yield tuple(tree for k, tree in enumerate(trees) if not left_out >> k & 1)


class TestDialConsequences(Checks, unittest.TestCase):

    def test_quarrels(self):
        quarrels = 0
        for _, book, standing, barred in cases(320, 15):
            quarrel = quarrel_of(book, standing, barred)
            self.assertEqual(quarrel is None, odds_of(book, standing, barred) is None)
            if quarrel is None:
                continue
            quarrels += 1
            kept, tree = quarrel
            self.assert_same(odds_of(book, kept, barred), tree)
            for others in some_left_out(kept):
                self.assert_same(odds_of(book, others, barred), None)
        self.assertGreater(quarrels, 20)

    def test_leans(self):
        for _, book, sentences, _ in cases(321, 12):
            kept = lean_of(book, sentences)
            found = grammar_of(book, sentences)
            self.assert_same(grammar_of(book, kept), found)
            self.assertGreaterEqual(len(kept), teaching_number(found))
            for others in some_left_out(kept):
                other = grammar_of(book, others)
                self.assertNotEqual(other, found)
                self.assert_same(lies_within(other, found), True)

    def test_a_lean_may_have_more_than_the_teaching_number(self):
        more = 0
        for _, book, sentences, _ in cases(322, 40, 8):
            kept = lean_of(book, sentences)
            more += len(kept) > teaching_number(grammar_of(book, kept))
        self.assertGreater(more, 0)

    def test_boldest(self):
        told = set()
        for _, _, standing, barred in cases(323, 8):
            depth = boldest_of(standing, barred)
            told.add(depth)
            self.assertEqual(depth is None, bool(set(standing) & set(barred)))
            for other in range(8):
                fits = odds_of((("depth", other),), standing, barred) is None
                self.assertEqual(fits, depth is not None and other >= depth)
        self.assertLessEqual({None, 0, 1}, told)

    def test_steps(self):
        for _, _, sentences, _ in cases(324, 4):
            steps = steps_of(sentences)
            for bolder, grammar in zip(steps, steps[1:]):
                self.assert_same(lies_within(grammar, bolder), True)
            self.assert_same(tuple(oracle.lot_among(steps[-1], FIVE)), oracle.ordered(sentences))
            self.assertEqual(len(lean_of((("depth", 60),), sentences)), len(sentences))
            self.assert_same(teaching_number(steps[-1]), len(sentences))

    def test_doubts(self):
        told = set()
        for _, _, sentences, _ in cases(325, 5):
            steps = steps_of(sentences)
            most = max([levels_of(tree) for tree in sentences], default=0)
            for depth in range(most + 3):
                doubt = doubt_of(sentences, depth)
                one, two = [steps[min(d, most)] for d in (depth, depth + 1)]
                told.add(doubt is None)
                if depth >= most:
                    self.assertIsNone(doubt)
                if doubt is None:
                    self.assert_same((lies_within(one, two), lies_within(two, one)), (True, True))
                    self.assert_same(oracle.lot_among(one, FIVE), oracle.lot_among(two, FIVE))
                else:
                    self.assert_same((takes(one, doubt), takes(two, doubt)), (True, False))
        self.assertEqual(told, {True, False})

    def test_brings(self):
        told = {True: 0, False: 0}
        for draw, book, sentences, _ in cases(326, 12):
            tree = draw.one_of(sentences or TREES) if draw.below(4) == 0 else draw.one_of(TREES)
            brought = brings_of(book, sentences, tree)
            less = grammar_of(book, sentences)
            if not sentences or takes(less, tree):
                self.assert_same(brought, None)
                continue
            more = grammar_of(book, sentences + (tree,))
            told[brought is None] += 1
            if brought is not None:
                self.assertNotEqual(brought, tree)
                self.assert_same((takes(more, brought), takes(less, brought)), (True, False))
                continue
            for other in FIVE[:150]:
                self.assert_same(takes(more, other), takes(less, other) or other == tree)
        self.assertGreater(min(told.values()), 20)

    def test_a_tree_that_stands_alone_brings_nothing(self):
        self.assert_same((brings_of(BOLD, (), A), brings_of(BOLD, (A,), A)), (None, None))


if __name__ == "__main__":
    unittest.main()
