"""The object that judges by trees that come and go: [62]."""

import unittest

from stoodthere.errors import NotThere, Stands
from stoodthere.found import grammar_of
from stoodthere.judging import Judged
from stoodthere.verdictchecker import lets_verdict
from stoodthere.verdicts import odds_of, verdict_of, verdict_paper
from tests.checks import Checks
from tests.samples import A, B, BOLD, BOOKS, DEEP, EMPTY, FA, FB, FFA, G, LONG, SMALL_TREES, Draw

FEW = SMALL_TREES[:30]
DEEDS = ("put", "bar", "take", "free")


def made(book, standing, barred):
    judge = Judged(book)
    for tree in standing:
        judge.put(tree)
    for tree in barred:
        judge.bar(tree)
    return judge


class TestJudged(Checks, unittest.TestCase):

    def assert_raised(self, error, tree, deed):
        with self.assertRaises(error) as caught:
            deed(tree)
        self.assertIs(type(caught.exception), error)
        self.assertIs(caught.exception.tree, tree)

    def test_example(self):
        judge = Judged(BOLD)
        judge.put(A)
        judge.put(FA)
        judge.bar(FB)
        told = [judge.verdict(FFA), judge.verdict(B), judge.odds(), judge.grammar()]
        self.assert_same(told, ["in", "out", None, LONG])

    def test_at_first(self):
        for book in BOOKS:
            judge = Judged(book)
            self.assert_same((judge.standing(), judge.barred(), judge.odds(), judge.grammar()), ((), (), None, EMPTY))
            self.assert_same((judge.verdict(A), lets_verdict(book, (), (), A, judge.paper(A))), ("open", "open"))

    def test_deeds(self):
        judge = Judged(BOLD)
        self.assert_same([judge.put(A), judge.put(FA), judge.bar(FB), judge.bar(A)], [None] * 4)
        self.assert_same((judge.standing(), judge.barred()), ((A, FA), (FB, A)))
        self.assert_same((judge.odds(), judge.verdict(B)), (A, "odds"))
        self.assert_same([judge.free(A), judge.take(A)], [None] * 2)
        self.assert_same((judge.standing(), judge.barred()), ((FA,), (FB,)))
        judge.put(A)
        judge.bar(A)
        self.assert_same((judge.standing(), judge.barred()), ((FA, A), (FB, A)))

    def test_stands_and_not_there(self):
        judge = made(BOLD, (A, FA), (FB,))
        for deed, error, tree in ((judge.put, Stands, A), (judge.put, Stands, FA), (judge.bar, Stands, FB),
                                  (judge.take, NotThere, FB), (judge.take, NotThere, B), (judge.free, NotThere, A),
                                  (judge.free, NotThere, FFA), (judge.take, NotThere, FFA)):
            self.assert_raised(error, tree, deed)
            self.assert_same((judge.standing(), judge.barred()), ((A, FA), (FB,)))
        # A tree may both stand and be barred.
        judge.put(FB)
        judge.bar(A)
        self.assert_same((judge.standing(), judge.barred()), ((A, FA, FB), (FB, A)))

    def test_results_belong_to_the_caller(self):
        judge = made(BOLD, (A,), (B,))
        told = (judge.standing(), judge.barred(), judge.grammar())
        judge.put(FA)
        judge.free(B)
        self.assert_same(told, ((A,), (B,), (1, (0,), ((0, "a", ()),))))

    def test_equal(self):
        judge = made(BOLD, (A, FA), (FB, B))
        self.assertIs(judge == made(BOLD, (A, FA), (FB, B)), True)
        self.assertIs(judge != made(BOLD, (A, FA), (FB, B)), False)
        self.assertIs(Judged(DEEP) == Judged(DEEP), True)
        others = [made(BOLD, (FA, A), (FB, B)), made(BOLD, (A, FA), (B, FB)), made(BOLD, (A,), (FB, B)), Judged(BOLD),
                  made(BOLD, (A, FA), (FB,)), made(DEEP, (A, FA), (FB, B)), made(BOLD, (FB, B), (A, FA)),
                  made((("groups", (), 0),), (A, FA), (FB, B)), None, True, 0, (), "", (BOLD, (A, FA), (FB, B)), object()]
        for other in others:
            self.assertIs(judge == other, False)
            self.assertIs(other == judge, False)
            self.assertIs(judge != other, True)
        # It is what stands and is barred that counts, not how this came.
        other = made(BOLD, (G, A, FA), (FB, B, G))
        other.take(G)
        other.free(G)
        self.assertIs(judge == other, True)

    def test_deeds_in_drawn_sequences(self):
        draw = Draw(290)
        refused = 0
        for book in BOOKS:
            judge = Judged(book)
            rows = {"standing": (), "barred": ()}
            for _ in range(30):
                refused += self.do_deed(draw, judge, rows)
                self.check_as_new(draw, book, judge, rows["standing"], rows["barred"])
        self.assertGreater(refused, 50)

    def do_deed(self, draw, judge, rows):
        """Does a drawn deed, notes what has to come of it, and returns whether it is refused."""
        word = draw.one_of(DEEDS + ("put", "bar"))
        side = "standing" if word in ("put", "take") else "barred"
        tree = draw.one_of(rows[side] or FEW) if draw.below(3) == 0 else draw.one_of(FEW[:10])
        adds = word in ("put", "bar")
        if adds == (tree in rows[side]):
            self.assert_raised(Stands if adds else NotThere, tree, getattr(judge, word))
            return True
        self.assertIsNone(getattr(judge, word)(tree))
        rows[side] = rows[side] + (tree,) if adds else tuple(other for other in rows[side] if other != tree)
        return False

    def check_as_new(self, draw, book, judge, standing, barred):
        new = made(book, standing, barred)
        self.assertIs(judge == new, True)
        self.assert_same((judge.standing(), judge.barred()), (standing, barred))
        self.assert_same((judge.odds(), judge.grammar()), (odds_of(book, standing, barred), grammar_of(book, standing)))
        self.assert_same((new.odds(), new.grammar()), (judge.odds(), judge.grammar()))
        for tree in draw.some_of(FEW, 3) + draw.some_of(standing + barred, 1):
            self.assert_same(judge.verdict(tree), verdict_of(book, standing, barred, tree))
            self.assert_same(judge.paper(tree), verdict_paper(book, standing, barred, tree))
            self.assert_same((new.verdict(tree), new.paper(tree)), (judge.verdict(tree), judge.paper(tree)))
            self.assert_same(lets_verdict(book, standing, barred, tree, judge.paper(tree)), judge.verdict(tree))


if __name__ == "__main__":
    unittest.main()
