"""What follows from the points on books and kinds: each sentence of [28]."""

import unittest

from stoodthere.bookchecker import lets_book
from stoodthere.bookkinds import is_book
from stoodthere.bookreadings import read_book
from stoodthere.books import depth_book, paired
from stoodthere.booktexts import book_text
from stoodthere.cuts import cut
from stoodthere.errors import InvalidPaper
from stoodthere.finers import finer_pair
from stoodthere.kindlists import kinds_over, pieces_by_kind
from stoodthere.kinds import kind_from, kind_of, kinds_of
from stoodthere.orders import in_order, is_ahead
from stoodthere.piecelists import levels_of, pieces_of
from stoodthere.pieces import parts_of
from tests.checks import Checks
from tests.samples import A, BOLD, BOOKS, SMALL_TREES, SOME_TREES, Draw, trees_up_to

TREES = SMALL_TREES[:60] + list(SOME_TREES)
SYMBOLS = (("a", 0), ("b", 0), ("f", 1))
THINGS = BOOKS + ((), None, BOLD[0], (None,), (("depth", 61),), (("groups", (("b", 0), ("a", 0)), 0),), [("depth", 0)],
                  (("table", ((".", (1,), 0),), 0),), (("table", (("a", (), 0), ("a", (), 1)), 0),), True, A)
TEXTS = ("depth 0", "depth 00", "groups else 0", "groups a=1 else 2 + depth 3", "table a()=1 else 2", "depth", "",
         "table f(0,1,2,3)=4 else 5", "groups a=1 a=2 else 0", "depth 0 + depth 0", "depth 0+depth 0")


class TestConsequences(Checks, unittest.TestCase):

    def test_the_checker_accepts_just_books(self):
        for thing in THINGS:
            try:
                lets_book(thing)
                accepted = True
            except InvalidPaper:
                accepted = False
            self.assert_same(accepted, is_book(thing))

    def test_texts(self):
        for book in BOOKS:
            self.assert_same(read_book(book_text(book)), book)
        for text in TEXTS:
            try:
                book = read_book(text)
            except ValueError:
                continue
            self.assert_same(book_text(book), text)

    def test_cut_twice(self):
        for tree in TREES:
            for depth in range(levels_of(tree) + 2):
                self.assert_same(cut(cut(tree, depth + 1), depth), cut(tree, depth))

    def test_kinds_of_parts(self):
        for book in BOOKS:
            for tree in TREES:
                kinds = tuple(kind_of(book, part) for part in parts_of(tree))
                self.assert_same(kind_of(book, tree), kind_from(book, tree[0][0], kinds))
                self.assert_same(kinds_of(book, tree)[0], kind_of(book, tree))

    def test_paired(self):
        draw = Draw(40)
        for book in BOOKS:
            for other in BOOKS:
                both = paired(book, other)
                for _ in range(12):
                    one, two = draw.one_of(TREES), draw.one_of(TREES)
                    by_each = [kind_of(each, one) == kind_of(each, two) for each in (book, other)]
                    self.assert_same(kind_of(both, one) == kind_of(both, two), all(by_each))

    def test_kinds_over(self):
        for book in BOOKS[:3] + BOOKS[4:]:
            least = dict(kinds_over(book, SYMBOLS))
            self.assertEqual(len(least), len(kinds_over(book, SYMBOLS)))
            self.assert_same(tuple(least.values()), in_order(tuple(least.values())))
            for tree in trees_up_to(SYMBOLS, 6):
                first = least[kind_of(book, tree)]
                self.assertTrue(first == tree or is_ahead(first, tree))

    def test_pieces_by_kind(self):
        for book in BOOKS:
            pieces = [piece for row in pieces_by_kind(book, SOME_TREES[:9]) for piece in row]
            self.assert_same(in_order(tuple(pieces)), pieces_of(SOME_TREES[:9]))
            self.assertEqual(len(pieces), len(set(pieces)))

    def test_finer_pair(self):
        shallow = BOOKS[:3] + BOOKS[4:]
        for book in shallow:
            for other in shallow:
                both = paired(book, other)
                self.assert_same(finer_pair(both, book, SYMBOLS), None)
                self.assert_same(finer_pair(both, other, SYMBOLS), None)
        for depth in range(4):
            for less in range(depth):
                self.assert_same(finer_pair(depth_book(depth), depth_book(less), SYMBOLS), None)


if __name__ == "__main__":
    unittest.main()
