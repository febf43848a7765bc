"""Cutting, and the kinds of trees: [24] and [25]."""

import unittest

from stoodthere.cuts import cut
from stoodthere.kinds import kind_from, kind_of, kinds_of
from stoodthere.piecelists import levels_of
from stoodthere.pieces import parts_of, piece_at
from tests import oracle
from tests.checks import Checks
from tests.samples import A, B, BOLD, BOOKS, BOTH, DEEP, DEEPEST_TREE, DOT, FA, FFA, G, MIX, SMALL_TREES, SOME_TREES
from tests.samples import WRONG_NUMBERS, WRONG_TREES

STUB = (("_", 0),)
TREES = SMALL_TREES[:120] + list(SOME_TREES)


class TestCut(Checks, unittest.TestCase):

    def test_examples(self):
        self.assert_same((cut(FFA, 0), cut(FFA, 2)), ((("_", 0),), (("f", 1), ("f", 1), ("_", 0))))

    def test_each_depth(self):
        for tree in TREES:
            whole = oracle.nested(tree)
            for depth in range(levels_of(tree) + 2):
                self.assert_same(cut(tree, depth), oracle.flat(oracle.cut_whole(whole, depth))
                                 if depth < levels_of(tree) else tree)

    def test_edges(self):
        self.assert_same((cut(A, 0), cut(A, 1), cut(DOT, 0), cut(DOT, 1)), (STUB, A, STUB, DOT))
        self.assert_same(cut(G, 1), (("g", 2), ("_", 0), ("_", 0)))
        self.assert_same(cut(G, 2), (("g", 2), ("f", 1), ("_", 0), ("b", 0)))
        self.assert_same((cut(G, 3), cut(G, 10 ** 59)), (G, G))
        self.assert_same(cut(DEEPEST_TREE, 60), DEEPEST_TREE)
        self.assert_same(cut(DEEPEST_TREE, 59), (("f", 1),) * 59 + STUB)

    def test_what_was_cut_is_cut_again(self):
        for tree in SOME_TREES:
            for depth in range(levels_of(tree) + 1):
                once = cut(tree, depth)
                for other in range(levels_of(tree) + 2):
                    self.assert_same(cut(once, other), cut(tree, min(depth, other)))

    def test_wrong_depth(self):
        for depth in WRONG_NUMBERS:
            self.assert_not_usable("depth", cut, FFA, depth)
            self.assert_not_usable("depth", cut, STUB, depth)


class TestKinds(Checks, unittest.TestCase):

    def test_examples(self):
        self.assert_same(kinds_of(MIX, FA), (((("f", 1), ("_", 0)), 0, 2), ((("a", 0),), 5, 1)))
        self.assert_same(kind_from(MIX, "f", (kind_of(MIX, FA),)), ((("f", 1), ("_", 0)), 0, 9))

    def test_each_book(self):
        for book in BOOKS:
            for tree in TREES:
                kinds = tuple(oracle.kind(book, piece) for piece in oracle.nodes(oracle.nested(tree)))
                self.assert_same(kinds_of(book, tree), kinds)
                self.assert_same(kind_of(book, tree), kinds[0])
                parts = tuple(oracle.kind(book, part) for part in parts_of(tree))
                self.assert_same(kind_from(book, tree[0][0], parts), kinds[0])

    def test_depths(self):
        for depth in range(6):
            book = (("depth", depth),)
            for tree in TREES:
                self.assert_same(kind_of(book, tree), (cut(tree, depth),))

    def test_groups(self):
        book = (("groups", ((".", 3), ("f", 2)), 1),)
        self.assert_same((kind_of(book, DOT), kind_of(book, FA), kind_of(book, A)), ((3,), (2,), (1,)))
        self.assert_same(kind_of(book, (("f", 2), ("a", 0), ("b", 0))), (2,))
        self.assert_same(kind_of((("groups", (), 8),), G), (8,))

    def test_tables(self):
        even = (("table", (("a", (), 0), ("f", (0,), 1), ("f", (1,), 0)), 9),)
        self.assert_same((kind_of(even, A), kind_of(even, FA), kind_of(even, FFA)), ((0,), (1,), (0,)))
        self.assert_same((kind_of(even, B), kind_of(even, (("f", 1), ("b", 0))), kind_of(even, G)), ((9,), (9,), (9,)))
        order = (("table", (("a", (), 1), ("g", (0, 1), 5), ("g", (1, 0), 6), ("g", (1,), 7)), 0),)
        self.assert_same(kind_of(order, (("g", 2),) + A + B), (6,))
        self.assert_same(kind_of(order, (("g", 2),) + B + A), (5,))
        self.assert_same(kind_of(order, (("g", 1),) + A), (7,))
        self.assert_same(kind_of((("table", ((".", (), 4), ("a", (0,), 5)), 0),), DOT), (4,))

    def test_two_tables_tell_each_by_itself(self):
        one = ("table", (("a", (), 1), ("f", (1,), 2)), 0)
        two = ("table", (("a", (), 2), ("f", (1,), 3), ("f", (2,), 4)), 0)
        self.assert_same(kind_of((one, two), FA), (2, 4))
        self.assert_same(kind_of((two, one), FFA), (0, 0))
        self.assert_same(kind_from((one, two), "f", ((1, 2),)), (2, 4))

    def test_kind_from_without_parts(self):
        self.assert_same(kind_from(MIX, "a", ()), (A, 5, 1))
        self.assert_same(kind_from(MIX, ".", ()), (DOT, 0, 9))
        self.assert_same(kind_from(BOLD, ".", ()), (STUB,))

    def test_kind_from_four_parts(self):
        kinds = tuple(kind_of(MIX, tree) for tree in (A, FA, DOT, G))
        self.assert_same(kind_from(MIX, "w", kinds), ((("w", 4),) + STUB * 4, 0, 9))
        deep = (("depth", 2),)
        kinds = tuple(kind_of(deep, tree) for tree in (A, FFA, BOTH))
        cut_parts = (("a", 0), ("f", 1), ("_", 0), ("g", 2), ("_", 0), ("_", 0))
        self.assert_same(kind_from(deep, "h", kinds), ((("h", 3),) + cut(A, 1) + cut(FFA, 1) + cut(BOTH, 1),))
        self.assert_same(kind_from(deep, "h", kinds)[0][1:], cut_parts)

    def test_deep_trees(self):
        deep = (("depth", 60),)
        self.assert_same(kinds_of(deep, DEEPEST_TREE), tuple((piece_at(DEEPEST_TREE, k),) for k in range(60)))
        long = (("f", 1),) * 399 + A
        self.assert_same(kind_of(deep, long), ((("f", 1),) * 60 + STUB,))

    def test_wrong_word(self):
        for word in (None, True, 0, "", "A", "a b", "..", "?", "_", (), ("a",), [], "a" * 17, A):
            self.assert_not_usable("word", kind_from, BOLD, word, ())
            self.assert_not_usable("word", kind_from, MIX, word, (kind_of(MIX, A),))

    def test_wrong_tree(self):
        for thing in WRONG_TREES:
            self.assert_not_usable("tree", kind_of, DEEP, thing)
            self.assert_not_usable("tree", kinds_of, DEEP, thing)


if __name__ == "__main__":
    unittest.main()
