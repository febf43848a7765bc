"""What follows from the points on verdicts: each sentence of [63], and G6 of [11]."""

import unittest

from stoodthere.errors import InvalidPaper
from stoodthere.finers import finer_pair
from stoodthere.found import grammar_of
from stoodthere.joinlists import joins_of
from stoodthere.judging import Judged
from stoodthere.leans import lean_of
from stoodthere.making import takes
from stoodthere.piecelists import symbols_of
from stoodthere.verdictchecker import lets_verdict
from stoodthere.verdicts import odds_of, verdict_of, verdict_paper
from tests.checks import Checks
from tests.samples import BOOKS, SMALL_TREES, Draw, drawn_sentences

TREES = SMALL_TREES[:40]
VERDICTS = ("odds", "in", "out", "open")


def cases(seed, many, most=5):
    """Books with drawn standing and barred trees, and a tree."""
    draw = Draw(seed)
    for book in BOOKS:
        for _ in range(many):
            standing = drawn_sentences(draw, draw.below(most), TREES)
            barred = drawn_sentences(draw, draw.below(4), TREES)
            tree = draw.one_of(draw.one_of((standing, barred, TREES)) or TREES)
            yield draw, book, standing, barred, tree


class TestVerdictConsequences(Checks, unittest.TestCase):

    def test_odds_exactly_if_some_barred_tree_is_in_the_closure(self):
        for _, book, standing, barred, tree in cases(310, 20):
            verdict = verdict_of(book, standing, barred, tree)
            self.assertEqual(verdict == "odds", odds_of(book, standing, barred) is not None)
            found = grammar_of(book, standing)
            self.assertEqual(verdict == "odds", any(takes(found, other) for other in barred))

    def test_standing_ones_are_in_and_barred_ones_out(self):
        for _, book, standing, barred, _ in cases(311, 15):
            odds = odds_of(book, standing, barred) is not None
            for trees, verdict in ((standing, "in"), (barred, "out")):
                for tree in trees:
                    self.assertEqual(verdict_of(book, standing, barred, tree), "odds" if odds else verdict)

    def test_if_no_tree_stands(self):
        for _, book, _, barred, tree in cases(312, 10):
            self.assertEqual(verdict_of(book, (), barred, tree), "out" if tree in barred else "open")

    def test_if_one_tree_stands(self):
        for draw, book, _, barred, tree in cases(313, 10):
            one = draw.one_of([other for other in TREES if other not in barred])
            self.assertEqual(verdict_of(book, (one,), barred, one), "in")
            self.assertEqual(verdict_of(book, (one,), barred, tree) == "in", tree == one)

    def test_the_closure_alone_counts(self):
        """Other sentences with the same closure, and other sequences of all of them, bring the same verdict."""
        for draw, book, standing, barred, tree in cases(314, 12, 6):
            verdict = verdict_of(book, standing, barred, tree)
            found = grammar_of(book, standing)
            more = standing + tuple(other for other in draw.some_of(TREES, 12) if other not in standing and takes(found, other))
            for others in (lean_of(book, standing), more, tuple(draw.some_of(more, len(more)))):
                bars = tuple(draw.some_of(barred, len(barred)))
                self.assertEqual(verdict_of(book, others, bars, tree), verdict)

    def test_further_trees(self):
        for draw, book, standing, barred, tree in cases(315, 15):
            verdict = verdict_of(book, standing, barred, tree)
            other = draw.one_of(TREES)
            later = []
            if other not in standing:
                later.append(verdict_of(book, standing + (other,), barred, tree))
            if other not in barred:
                later.append(verdict_of(book, standing, barred + (other,), tree))
            for told in later:
                self.assertIn(told, {"odds": ("odds",), "open": VERDICTS}.get(verdict, (verdict, "odds")))

    def test_finer_books(self):
        compared = set()
        for draw, book, standing, barred, tree in cases(316, 8):
            symbols = symbols_of(standing + barred + (tree,))
            for other in BOOKS:
                if (("depth", 2),) in (book, other) or (("depth", 60),) in (book, other):
                    continue
                if finer_pair(book, other, symbols) is None:
                    verdict = verdict_of(book, standing, barred, tree)
                    bolder = verdict_of(other, standing, barred, tree)
                    compared.add((verdict, bolder))
                    if verdict != "open":
                        self.assertIn(bolder, (verdict, "odds"))
        self.assertLessEqual({(verdict, verdict) for verdict in VERDICTS} | {("in", "odds"), ("open", "out")}, compared)

    def test_depths(self):
        """A greater depth is finer: the verdict by it is the same by each lesser one, or "odds", unless it is "open"."""
        for _, _, standing, barred, tree in cases(317, 5):
            told = [verdict_of((("depth", depth),), standing, barred, tree) for depth in range(6)]
            for bolder, verdict in zip(told, told[1:]):
                if verdict != "open":
                    self.assertIn(bolder, (verdict, "odds"))
            self.assertEqual(told[-1] == "odds", bool(set(standing) & set(barred)))

    def test_after_any_deeds_a_judged_answers_as_a_new_one(self):
        for draw, book, standing, barred, tree in cases(318, 4):
            judge = Judged(book)
            for other in standing + tuple(other for other in TREES[:3] if other not in standing):
                judge.put(other)
            for other in draw.some_of(judge.standing(), 2):
                judge.take(other)
            for other in barred[::-1]:
                judge.bar(other)
            for other in barred[:1]:
                judge.free(other)
                judge.bar(other)
            new = Judged(book)
            for other in judge.barred():
                new.bar(other)
            for other in judge.standing():
                new.put(other)
            self.assertTrue(judge == new)
            told = [(one.verdict(tree), one.paper(tree), one.odds(), one.grammar()) for one in (judge, new)]
            self.assert_same(told[0], told[1])

    def test_no_paper_is_let_by_for_another_verdict(self):
        """Papers put together from whatever is at hand: those that are let by are for the verdict."""
        let_by = {}
        for draw, book, standing, barred, tree in cases(319, 10):
            verdict = verdict_of(book, standing, barred, tree)
            more = standing if tree in standing else standing + (tree,)
            fences = [grammar_of(book, trees) for trees in (standing, more, standing[1:], barred)]
            joins = [joins_of(book, standing), joins_of(book, more), (), joins_of(book, standing)[:1]]
            papers = [verdict_paper(book, standing, barred, other) for other in [tree] + draw.some_of(TREES, 3)]
            for fence in fences:
                papers += [("in", fence, some) for some in joins] + [("open", fence, other) for other in fences]
                papers += [("out", fence, wrong, some) for wrong in barred for some in joins]
            papers += [("odds", wrong, some) for wrong in barred for some in joins]
            for paper in papers:
                try:
                    self.assertEqual(lets_verdict(book, standing, barred, tree, paper), verdict)
                    let_by[verdict] = let_by.get(verdict, 0) + 1
                except InvalidPaper:
                    continue
        self.assertEqual(set(let_by), set(VERDICTS))
        self.assertGreater(min(let_by.values()), 20)


if __name__ == "__main__":
    unittest.main()
