"""Verdicts on trees and their papers: [60] and [61]."""

import unittest

from stoodthere.verdictchecker import lets_verdict
from stoodthere.verdicts import odds_of, verdict_of, verdict_paper
from tests import oracle
from tests.checks import Checks
from tests.samples import A, B, BOLD, BOOKS, DEEP, FA, FB, FFA, G, SMALL_SYMBOLS, SMALL_TREES, SOME_TREES, WRONG_SENTENCES
from tests.samples import WRONG_TREES, Draw, drawn_sentences, drawn_tree, trees_up_to

TWO = (A, FA)
FIVE = trees_up_to(SMALL_SYMBOLS, 5)


class TestVerdicts(Checks, unittest.TestCase):

    def check(self, verdict, book, standing, barred, tree):
        """The verdict, and a paper that is let by for it, and for no other one."""
        self.assert_same(verdict_of(book, standing, barred, tree), verdict)
        paper = verdict_paper(book, standing, barred, tree)
        self.assertEqual((type(paper), paper[0]), (tuple, verdict))
        self.assert_same(lets_verdict(book, standing, barred, tree, paper), verdict)
        self.assert_same(odds_of(book, standing, barred) is not None, verdict == "odds")

    def test_examples(self):
        self.check("in", BOLD, TWO, (FB,), FFA)
        self.check("out", BOLD, TWO, (FB,), B)
        self.check("open", DEEP, TWO, (FB,), B)
        self.check("odds", BOLD, TWO, (FFA,), B)
        self.assert_same(odds_of(BOLD, TWO, (FB, FFA)), FFA)
        self.assert_same(verdict_paper(BOLD, TWO, (FFA,), B)[:2], ("odds", FFA))

    def test_no_standing_trees(self):
        for book in BOOKS:
            for tree in (A, FFA, G):
                self.check("out", book, (), (FB, tree), tree)
                self.check("open", book, (), (FB,), tree)
                self.check("open", book, (), (), tree)

    def test_one_standing_tree(self):
        for book in BOOKS:
            self.check("in", book, (G,), (FB, FFA), G)
            self.check("out", book, (G,), (FB, FFA), FFA)
            self.check("odds", book, (G,), (FB, G), G)
            self.check("odds", book, (G,), (FB, G), FFA)
        self.check("open", BOLD, (A,), (B,), FA)
        self.check("out", BOLD, (A,), (FFA,), FA)
        self.check("open", DEEP, (A,), (FFA,), FA)

    def test_a_tree_that_stands_is_barred_both_or_neither(self):
        self.check("in", DEEP, (A, FA), (B,), FA)
        self.check("out", DEEP, (A, FA), (B,), B)
        self.check("odds", DEEP, (A, FA), (FA,), FA)
        self.check("odds", DEEP, (A, FA), (FA,), B)
        self.check("open", DEEP, (A, FA), (B,), FB)

    def test_nothing_that_fits(self):
        for tree in (A, B, FA, FFA, G):
            self.check("odds", BOLD, TWO, (B, FFA), tree)
            self.assert_same(verdict_paper(BOLD, TWO, (B, FFA), tree)[1], FFA)

    def test_the_first_barred_tree_is_told(self):
        more = (("f", 1),) + FFA
        self.assert_same(odds_of(BOLD, TWO, (B, more, FFA, A)), more)
        self.assert_same(odds_of(BOLD, TWO, (FFA, more)), FFA)
        self.assert_same(odds_of(BOLD, TWO, (A, FFA)), A)
        self.assert_same((odds_of(BOLD, TWO, ()), odds_of(BOLD, (), (A,)), odds_of(DEEP, TWO, (FFA,))), (None, None, None))

    def test_out_by_what_would_come_with_the_tree(self):
        self.check("out", BOLD, (FA, FB), (FFA,), A)
        self.check("out", BOLD, (FA, FB), (FFA,), FFA)
        self.check("open", BOLD, (FA, FB), ((("g", 2),) + A + A,), A)

    def test_held_against_the_closures_themselves(self):
        """By exchanges made again and again among trees of so many symbols."""
        draw = Draw(280)
        seen = {}
        for book in BOOKS:
            for _ in range(9):
                standing = drawn_sentences(draw, draw.below(5), FIVE[:40])
                barred = drawn_sentences(draw, draw.below(4), FIVE[:90])
                closure = set(oracle.Lot(book, standing).closed_to(5))
                odds = [tree for tree in barred if tree in closure]
                self.assert_same(odds_of(book, standing, barred), odds[0] if odds else None)
                for tree in draw.some_of(FIVE[:60], 4) + draw.some_of(sorted(closure), 2) + draw.some_of(barred, 1):
                    verdict = self.by_hand(book, standing, barred, tree, closure)
                    seen[verdict] = seen.get(verdict, 0) + 1
                    self.check(verdict, book, standing, barred, tree)
        self.assertEqual(len(seen), 4)
        self.assertGreater(min(seen.values()), 20)

    def by_hand(self, book, standing, barred, tree, closure):
        if any(other in closure for other in barred):
            return "odds"
        if tree in closure:
            return "in"
        more = oracle.Lot(book, standing + (tree,)).closed_to(5)
        return "out" if any(other in more for other in barred) else "open"

    def test_papers_are_let_by_for_no_other_verdict(self):
        draw = Draw(281)
        for book in BOOKS:
            for _ in range(10):
                standing = drawn_sentences(draw, draw.below(4), FIVE[:40])
                barred = drawn_sentences(draw, draw.below(3), FIVE[:60])
                trees = draw.some_of(FIVE[:60], 4)
                papers = [(tree, verdict_paper(book, standing, barred, tree)) for tree in trees]
                for tree in trees:
                    verdict = verdict_of(book, standing, barred, tree)
                    for _, paper in papers:
                        try:
                            self.assert_same(lets_verdict(book, standing, barred, tree, paper), verdict)
                        except ValueError:
                            continue

    def test_many_trees(self):
        draw = Draw(282)
        for k in range(24):
            trees = []
            while len(trees) < 30:
                tree = drawn_tree(draw, (6, 12, 30)[k % 3])
                if tree not in trees and len(tree) <= 60:
                    trees.append(tree)
            book = BOOKS[k % len(BOOKS)]
            standing, barred = tuple(trees[:12]), tuple(trees[12:25])
            for tree in trees[:1] + trees[12:13] + trees[25:28]:
                self.check(verdict_of(book, standing, barred, tree), book, standing, barred, tree)

    def test_wide_and_deep_trees(self):
        for book in BOOKS:
            for k in range(0, len(SOME_TREES) - 4, 3):
                standing, barred = SOME_TREES[k:k + 2], SOME_TREES[k + 2:k + 4]
                for tree in SOME_TREES[k:k + 5]:
                    self.check(verdict_of(book, standing, barred, tree), book, standing, barred, tree)

    def test_wrong_parameters(self):
        for thing in WRONG_SENTENCES:
            for function in (verdict_of, verdict_paper):
                self.assert_not_usable("standing", function, BOLD, thing, (FB,), FFA)
                self.assert_not_usable("standing", function, BOLD, thing, None, None)
                self.assert_not_usable("barred", function, BOLD, TWO, thing, FFA)
                self.assert_not_usable("barred", function, BOLD, TWO, thing, None)
            self.assert_not_usable("standing", odds_of, BOLD, thing, (FB,))
            self.assert_not_usable("standing", odds_of, BOLD, thing, None)
            self.assert_not_usable("barred", odds_of, BOLD, TWO, thing)
        for thing in WRONG_TREES:
            for function in (verdict_of, verdict_paper):
                self.assert_not_usable("tree", function, BOLD, TWO, (FB,), thing)
                self.assert_not_usable("tree", function, BOLD, TWO, (FFA,), thing)

    def test_small_trees_by_all_books(self):
        for book in BOOKS:
            for tree in SMALL_TREES[:30]:
                self.check(verdict_of(book, (A, B, FA), (FB, G), tree), book, (A, B, FA), (FB, G), tree)


if __name__ == "__main__":
    unittest.main()
