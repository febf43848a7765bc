"""The object that tells of the closure of trees that come and go: [42]."""

import unittest

from stoodthere.closures import Closure
from stoodthere.errors import NotThere, Stands
from stoodthere.joinchecker import lets_joins
from stoodthere.joinlists import joins_of
from stoodthere.plainclasses import plain_classes
from tests import oracle
from tests.checks import Checks
from tests.samples import A, B, BOLD, BOOKS, DEEP, FA, FB, FFA, G, SMALL_TREES, WRONG_TREES, Draw, drawn_sentences

FEW = SMALL_TREES[:40]


def made(book, trees):
    box = Closure(book)
    for tree in trees:
        box.put(tree)
    return box


class TestClosure(Checks, unittest.TestCase):

    def test_example(self):
        box = Closure(BOLD)
        self.assertIsNone(box.put(FA))
        box.put(FB)
        told = (box.numbers(), box.is_same(A, B), box.takes_in(A), box.takes_in(FFA))
        self.assert_same(told, ((4, 2, 2), True, False, False))
        box.put(A)
        self.assert_same((box.numbers(), box.is_same(B, FA), box.takes_in(FFA)), ((4, 1, 3), True, True))

    def test_at_first(self):
        for book in BOOKS:
            box = Closure(book)
            self.assert_same((box.standing(), box.classes(), box.joins(), box.numbers()), ((), (), (), (0, 0, 0)))
            self.assert_same((box.takes_in(A), box.take_last()), (False, None))
            self.assert_not_usable("tree", box.is_same, A, A)

    def test_put_and_take(self):
        box = made(BOLD, (FA, A, FB))
        self.assert_same(box.standing(), (FA, A, FB))
        self.assertIsNone(box.take(A))
        self.assert_same(box.standing(), (FA, FB))
        box.put(A)
        self.assert_same(box.standing(), (FA, FB, A))
        self.assert_same((box.take_last(), box.standing()), (A, (FA, FB)))
        self.assert_same((box.take_last(), box.take_last(), box.take_last()), (FB, FA, None))
        self.assert_same((box.standing(), box.numbers()), ((), (0, 0, 0)))
        box.put(A)
        self.assert_same((box.standing(), box.takes_in(A)), ((A,), True))

    def test_stands_and_not_there(self):
        box = made(BOLD, (FA, A))
        for tree in (FA, A):
            with self.assertRaises(Stands) as caught:
                box.put(tree)
            self.assertIs(caught.exception.tree, tree)
        # Pieces of standing trees, and trees of the closure, do not stand.
        for tree in (B, FFA, FB):
            with self.assertRaises(NotThere) as caught:
                box.take(tree)
            self.assertIs(caught.exception.tree, tree)
        self.assert_same(box.standing(), (FA, A))
        with self.assertRaises(NotThere):
            made(BOLD, (FA,)).take(A)

    def test_is_same(self):
        box = made(BOLD, (FA, FB))
        told = [box.is_same(one, two) for one in (A, B, FA, FB) for two in (A, B, FA, FB)]
        self.assert_same(told, [True, True, False, False] * 2 + [False, False, True, True] * 2)
        for thing in WRONG_TREES + (FFA, G, (("c", 0),)):
            self.assert_not_usable("tree", box.is_same, thing, A)
            self.assert_not_usable("tree", box.is_same, thing, thing)
            self.assert_not_usable("other", box.is_same, A, thing)
        box.take(FB)
        self.assert_not_usable("other", box.is_same, A, B)

    def test_results_belong_to_the_caller(self):
        box = made(BOLD, (FA, FB))
        told = box.standing(), box.classes(), box.joins()
        box.put(A)
        self.assert_same(told[0], (FA, FB))
        self.assert_same(told[1], ((A, B), (FA, FB)))
        self.assert_same(lets_joins(BOLD, (FA, FB), told[2]), told[1])

    def test_equal(self):
        box = made(BOLD, (FA, A))
        self.assertIs(box == made(BOLD, (FA, A)), True)
        self.assertIs(Closure(DEEP) == Closure(DEEP), True)
        self.assertIs(box != made(BOLD, (FA, A)), False)
        others = [made(BOLD, (A, FA)), made(BOLD, (FA,)), made(DEEP, (FA, A)), Closure(BOLD), made(BOLD, (FA, B)),
                  made((("groups", (), 0),), (FA, A)), None, True, 0, (), (FA, A), [FA, A], "", (BOLD, (FA, A)), object()]
        for other in others:
            self.assertIs(box == other, False)
            self.assertIs(other == box, False)
            self.assertIs(box != other, True)
        self.assertIs(Closure(BOLD) == (), False)
        # What was asked of one of them does not count.
        other = made(BOLD, (FA, A, FB))
        other.classes()
        other.take_last()
        self.assertIs(box == other, True)

    def test_joins_are_the_same_ones(self):
        draw = Draw(140)
        for book in BOOKS:
            trees = drawn_sentences(draw, 5, FEW)
            box = made(book, trees)
            other = made(book, trees[:2] + (G,) + trees[2:]) if G not in trees else made(book, trees)
            other.joins()
            if G not in trees:
                other.take(G)
            self.assert_same(box.joins(), other.joins())
            self.assert_same(box.joins(), box.joins())

    def test_deeds_in_drawn_sequences(self):
        draw = Draw(141)
        for book in BOOKS:
            box, trees = Closure(book), ()
            for _ in range(40):
                trees = self.do_deed(draw, box, trees)
                self.check_as_new(draw, book, box, trees)

    def do_deed(self, draw, box, trees):
        """Does a drawn deed; returns what has to stand then."""
        tree = draw.one_of(FEW[:12] if draw.below(3) else trees or FEW)
        word = draw.one_of(("put", "put", "take", "take_last", "is_same"))
        if word == "take_last":
            self.assert_same(box.take_last(), trees[-1] if trees else None)
            return trees[:-1]
        if word == "is_same":
            self.assert_not_usable("tree", box.is_same, None, tree)
            return trees
        if (word == "put") == (tree in trees):
            with self.assertRaises(Stands if word == "put" else NotThere) as caught:
                getattr(box, word)(tree)
            self.assertIs(caught.exception.tree, tree)
            return trees
        self.assertIsNone(getattr(box, word)(tree))
        return trees + (tree,) if word == "put" else tuple(other for other in trees if other != tree)

    def check_as_new(self, draw, book, box, trees):
        new = made(book, trees)
        self.assertIs(box == new, True)
        self.assert_same(box.standing(), trees)
        _, classes = oracle.saturated(book, trees)
        self.assert_same(box.classes(), classes.told())
        self.assert_same((box.classes(), box.joins(), box.numbers()), (new.classes(), new.joins(), new.numbers()))
        self.assert_same((box.classes(), box.joins()), (plain_classes(book, trees), joins_of(book, trees)))
        pieces = len(classes.pieces)
        self.assert_same(box.numbers(), (pieces, len(box.classes()), pieces - len(box.classes())))
        for tree in draw.some_of(SMALL_TREES, 6):
            self.assert_same(box.takes_in(tree), classes.leads_to(tree))
            self.assert_same(new.takes_in(tree), box.takes_in(tree))
        for _ in range(4 if trees else 0):
            one, two = draw.one_of(classes.pieces), draw.one_of(classes.pieces)
            self.assert_same(box.is_same(one, two), classes.joined(one, two))


if __name__ == "__main__":
    unittest.main()
