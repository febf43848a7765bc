"""All kinds over symbols, pieces by kind, and comparing books: [26] and [27]."""

import unittest

from stoodthere.finers import finer_pair
from stoodthere.kindlists import kinds_over, pieces_by_kind
from stoodthere.kinds import kind_of
from tests import oracle
from tests.checks import Checks
from tests.samples import A, B, BOLD, BOOKS, DEEP, FA, FB, FFA, MIX, WIDE
from tests.samples import WRONG_SENTENCES, Draw, drawn_sentences, trees_up_to

AF = (("a", 0), ("f", 1))
ROWS = (
    AF,
    (("a", 0), ("b", 0), ("f", 1)),
    (("a", 0), ("g", 2)),
    (("a", 0), ("b", 0), ("f", 1), ("g", 2)),
    ((".", 0), ("a", 1), ("a", 2)),
    (("a", 0), ("a", 1), ("b", 0), ("h", 3)),
)
WRONG_SYMBOLS = (
    None, True, 0, "", "a", [], [("a", 0)], ("a", 0), (None,), ((),), (("a",),), (("a", False),), (("a", 0), None),
    (("a", 0), ("a", 0)), (("b", 0), ("a", 0)), (("a", 1), ("a", 0)), (["a", 0],), (("a", 5),), ((".", 1),),
    (("?", 0),), (("_", 0),), (("A", 0),), A + A, (("f", 1), ("a", 0)), (("a", 0), ("f", 1), ("b", 0)), ((("a", 0),),),
)
# Books under which all kinds over the rows show in trees of few symbols.
SHALLOW = [book for book in BOOKS if ("depth", 2) not in book and ("depth", 60) not in book]


def kinds_by_hand(book, symbols, most):
    """The least tree of each kind among all trees of at most most symbols, in order of these trees."""
    found = {}
    for tree in trees_up_to(symbols, most):
        found.setdefault(oracle.kind(book, tree), tree)
    return tuple(found.items())


class TestKindsOver(Checks, unittest.TestCase):

    def test_examples(self):
        wanted = ((((("a", 0),),), (("a", 0),)), (((("f", 1), ("_", 0)),), (("f", 1), ("a", 0))))
        self.assert_same(kinds_over(DEEP, (("a", 0), ("f", 1))), wanted)

    def test_without_leaves(self):
        for book in BOOKS:
            for symbols in ((), (("f", 1),), (("f", 1), ("g", 2), ("w", 4))):
                self.assert_same(kinds_over(book, symbols), ())

    def test_each_book(self):
        for book in SHALLOW:
            for symbols in ROWS:
                self.assert_same(kinds_over(book, symbols), kinds_by_hand(book, symbols, 7))

    def test_bold(self):
        self.assert_same(kinds_over(BOLD, ((".", 0), ("b", 0))), ((((("_", 0),),), ((".", 0),)),))
        self.assert_same(kinds_over(BOLD, ROWS[3]), ((((("_", 0),),), A),))

    def test_depth_two(self):
        deep = (("depth", 2),)
        self.assert_same(kinds_over(deep, AF), kinds_by_hand(deep, AF, 6))
        self.assert_same(kinds_over(deep, ROWS[1]), kinds_by_hand(deep, ROWS[1], 6))
        self.assert_same(kinds_over(deep, ROWS[2]), kinds_by_hand(deep, ROWS[2], 7))
        self.assert_same(len(kinds_over((("depth", 60),), (("a", 0), ("b", 0)))), 2)

    def test_many_kinds(self):
        rows = tuple(("f", (k,), k + 1) for k in range(98))
        ring = (("table", (("a", (), 0),) + rows + (("f", (98,), 0),), 99),)
        told = kinds_over(ring, AF)
        self.assert_same(told, tuple(((k,), (("f", 1),) * k + A) for k in range(99)))

    def test_least_tree_is_not_found_by_the_first_rule(self):
        book = (("table", (("a", (), 0), ("c", (0,), 1), ("d", (0, 0), 2), ("b", (1,), 2)), 9),)
        symbols = (("a", 0), ("b", 1), ("c", 1), ("d", 2))
        told = dict(kinds_over(book, symbols))
        self.assert_same(told[(2,)], (("b", 1), ("c", 1), ("a", 0)))
        self.assert_same(kinds_over(book, symbols), kinds_by_hand(book, symbols, 5))

    def test_long_least_trees(self):
        """Two kinds with words of no part count up to a tree of many symbols."""
        rows = (("a", (), 0), ("w", (0, 0, 0, 0), 1), ("w", (1, 1, 1, 1), 2), ("w", (2, 2, 2, 2), 3))
        told = dict(kinds_over((("table", rows, 9),), (("a", 0), ("w", 4))))
        wanted = A
        for _ in range(3):
            wanted = (("w", 4),) + wanted * 4
        self.assert_same(told[(3,)], wanted)
        self.assert_same(len(wanted), 85)

    def test_wrong_symbols(self):
        for thing in WRONG_SYMBOLS:
            self.assert_not_usable("symbols", kinds_over, DEEP, thing)
            self.assert_not_usable("symbols", finer_pair, DEEP, BOLD, thing)
            self.assert_not_usable("symbols", finer_pair, BOLD, BOLD, thing)


class TestPiecesByKind(Checks, unittest.TestCase):

    def test_examples(self):
        wanted = (((("a", 0),),), ((("b", 0),),), ((("f", 1), ("a", 0)), (("f", 1), ("b", 0))))
        self.assert_same(pieces_by_kind(DEEP, (FB, FA)), wanted)

    def test_edges(self):
        for book in BOOKS:
            self.assert_same(pieces_by_kind(book, ()), ())
            self.assert_same(pieces_by_kind(book, (A,)), ((A,),))
        self.assert_same(pieces_by_kind(BOLD, (FFA, B)), ((A, B, FA, FFA),))

    def test_each_book(self):
        draw = Draw(30)
        for book in BOOKS:
            for _ in range(6):
                trees = drawn_sentences(draw, 4) + (WIDE,)
                groups = {}
                for piece in oracle.all_pieces(trees):
                    groups.setdefault(oracle.kind(book, piece), []).append(piece)
                self.assert_same(pieces_by_kind(book, trees), tuple(tuple(row) for row in groups.values()))

    def test_wrong_trees(self):
        for thing in WRONG_SENTENCES:
            self.assert_not_usable("trees", pieces_by_kind, DEEP, thing)


class TestFinerPair(Checks, unittest.TestCase):

    def pair_by_hand(self, book, other, trees):
        for at, tree in enumerate(trees):
            for ahead in trees[:at]:
                if oracle.kind(book, ahead) == oracle.kind(book, tree):
                    if oracle.kind(other, ahead) != oracle.kind(other, tree):
                        return (ahead, tree)
        return None

    def test_examples(self):
        told = (finer_pair(BOLD, DEEP, (("a", 0), ("f", 1))), finer_pair(DEEP, BOLD, (("a", 0), ("f", 1))))
        self.assert_same(told, (((("a", 0),), (("f", 1), ("a", 0))), None))

    def test_each_pair_of_books(self):
        for symbols in (AF, ROWS[1]):
            trees = trees_up_to(symbols, 5)
            for book in SHALLOW:
                for other in SHALLOW:
                    self.assert_same(finer_pair(book, other, symbols), self.pair_by_hand(book, other, trees))

    def test_trees_with_two_parts(self):
        symbols = (("a", 0), ("b", 0), ("g", 2))
        trees = trees_up_to(symbols, 5)
        for book in SHALLOW:
            for other in (BOLD, DEEP, SHALLOW[5], SHALLOW[8], MIX):
                self.assert_same(finer_pair(book, other, symbols), self.pair_by_hand(book, other, trees))

    def test_the_least_later_tree_counts_first(self):
        """Both a with c and b with d are told apart by the second book alone; c is ahead of d."""
        book = (("groups", (("a", 1), ("b", 2), ("c", 2), ("d", 1)), 0),)
        other = (("groups", (("a", 1), ("b", 2), ("c", 3), ("d", 4)), 0),)
        symbols = (("a", 0), ("b", 0), ("c", 0), ("d", 0))
        self.assert_same(finer_pair(book, other, symbols), (B, (("c", 0),)))
        book = (("groups", (), 0),)
        self.assert_same(finer_pair(book, other, symbols), (A, B))
        self.assert_same(finer_pair(book, (("groups", (("d", 1),), 0),), symbols), (A, (("d", 0),)))

    def test_books_with_themselves(self):
        for book in SHALLOW:
            for symbols in ROWS[:3] + ((),):
                self.assert_same(finer_pair(book, book, symbols), None)
        self.assert_same(finer_pair(BOLD, DEEP, ()), None)
        self.assert_same(finer_pair(BOLD, DEEP, (("f", 1), ("g", 2))), None)
        self.assert_same(finer_pair(BOLD, DEEP, (("a", 0),)), None)
        self.assert_same(finer_pair(BOLD, DEEP, (("a", 0), ("b", 0))), (A, B))

    def test_depths(self):
        for symbols in (AF, ROWS[1]):
            for depth in range(3):
                for less in range(depth + 1):
                    self.assert_same(finer_pair((("depth", depth),), (("depth", less),), symbols), None)
                book, deeper = (("depth", depth),), (("depth", depth + 1),)
                one, two = finer_pair(book, deeper, symbols)
                self.assertEqual(kind_of(book, one), kind_of(book, two))
                self.assertNotEqual(kind_of(deeper, one), kind_of(deeper, two))
        self.assert_same(finer_pair(DEEP, (("depth", 2),), AF), (FA, FFA))

    def test_a_deep_pair(self):
        """One more level each: the least trees that differ are chains."""
        for depth in (1, 3, 10):
            one = (("f", 1),) * depth + A
            two = (("f", 1),) * (depth + 1) + A
            self.assert_same(finer_pair((("depth", depth),), (("depth", depth + 1),), AF), (one, two))


if __name__ == "__main__":
    unittest.main()
