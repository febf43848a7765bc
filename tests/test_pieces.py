"""Pieces, lists of pieces, and places: [15], [16], [17]."""

import unittest

from stoodthere.piecelists import levels_of, pieces_of, symbols_of
from stoodthere.pieces import ends_of, parts_of, piece_at, tree_of, with_piece
from stoodthere.places import place_of, put_at
from tests import oracle
from tests.checks import Checks
from tests.samples import A, B, DEEPEST_TREE, DOT, FA, FB, FFA, G, SMALL_TREES, SOME_TREES, WIDE
from tests.samples import WRONG_NUMBERS, WRONG_TREES, drawn_trees

TREES = SMALL_TREES + list(SOME_TREES)


class TestPieces(Checks, unittest.TestCase):

    def test_examples(self):
        self.assert_same(ends_of(G), (4, 3, 3, 4))
        told = (piece_at(G, 1), with_piece(FA, 1, FB))
        self.assert_same(told, ((("f", 1), ("a", 0)), (("f", 1), ("f", 1), ("b", 0))))
        self.assert_not_usable("node", piece_at, FA, 2)
        self.assert_same((parts_of(G), parts_of(A)), (((("f", 1), ("a", 0)), (("b", 0),)), ()))
        self.assert_same((tree_of("g", (FA, B)) == G, tree_of("a", ())), (True, (("a", 0),)))

    def test_pieces_of_many_trees(self):
        for tree in TREES:
            whole = oracle.nested(tree)
            pieces = oracle.nodes(whole)
            self.assert_same(ends_of(tree), tuple(node + len(piece) for node, piece in enumerate(pieces)))
            self.assert_same(parts_of(tree), tuple(oracle.flat(child) for child in whole[1]))
            self.assert_same(tree_of(tree[0][0], parts_of(tree)), tree)
            for node, piece in enumerate(pieces):
                self.assert_same(piece_at(tree, node), piece)

    def test_with_piece(self):
        for tree in SOME_TREES:
            for node in range(len(tree)):
                for piece in (A, DOT, FB, G, WIDE):
                    self.assert_same(with_piece(tree, node, piece), oracle.with_other(tree, node, piece))

    def test_long_trees(self):
        long = (("f", 1),) * 399 + A
        self.assert_same(ends_of(long), (400,) * 400)
        self.assert_same(piece_at(long, 399), A)
        self.assert_same(with_piece(long, 398, B), (("f", 1),) * 398 + B)
        self.assert_same(parts_of(long), (long[1:],))

    def test_wrong_node(self):
        for node in WRONG_NUMBERS + (4, 5, 10 ** 59):
            self.assert_not_usable("node", piece_at, G, node)
            self.assert_not_usable("node", with_piece, G, node, A)
            self.assert_not_usable("node", with_piece, G, node, None)
            self.assert_not_usable("node", place_of, G, node)
        self.assert_not_usable("node", piece_at, A, 1)

    def test_wrong_piece(self):
        for piece in WRONG_TREES:
            self.assert_not_usable("piece", with_piece, G, 1, piece)
            self.assert_not_usable("piece", put_at, ((("f", 1),), ()), piece)

    def test_tree_of(self):
        self.assert_same(tree_of("w", (A, A, A, A)), (("w", 4),) + A * 4)
        self.assert_same(tree_of(".", ()), DOT)
        self.assert_same(tree_of("f", (DOT,)), (("f", 1), (".", 0)))
        self.assert_same(tree_of("a", (FFA, FFA)), (("a", 2),) + FFA * 2)

    def test_wrong_parts(self):
        for thing in WRONG_TREES:
            self.assert_not_usable("parts", tree_of, "f", (thing,))
            self.assert_not_usable("parts", tree_of, "f", (A, thing))
        for parts in (None, True, 0, "", "a", [], [A], A, FA, (A, A, A, A, A), (None,), 1):
            self.assert_not_usable("parts", tree_of, "f", parts)
            self.assert_not_usable("parts", tree_of, ".", parts)
        for parts in ((A,), (DOT,), (A, A)):
            self.assert_not_usable("parts", tree_of, ".", parts)


class TestPieceLists(Checks, unittest.TestCase):

    def test_examples(self):
        wanted = ((("a", 0),), (("f", 1), ("a", 0)), (("f", 1), ("f", 1), ("a", 0)))
        self.assert_same(pieces_of((FFA, FA)), wanted)
        self.assert_same(symbols_of((G, FA)), (("a", 0), ("b", 0), ("f", 1), ("g", 2)))
        self.assert_same((levels_of(A), levels_of(G)), (1, 3))

    def test_no_trees(self):
        self.assert_same((pieces_of(()), symbols_of(())), ((), ()))

    def test_many_trees(self):
        for seed in range(20):
            trees = drawn_trees(seed, 5, 20)
            self.assert_same(pieces_of(trees), oracle.all_pieces(trees))
            self.assert_same(symbols_of(trees), tuple(sorted({symbol for tree in trees for symbol in tree})))
        for tree in TREES:
            self.assert_same(pieces_of((tree,)), oracle.ordered(piece_at(tree, node) for node in range(len(tree))))
            self.assert_same(levels_of(tree), oracle.levels(oracle.nested(tree)))

    def test_symbols(self):
        trees = ((("f", 2), ("f", 0), ("f", 1), ("b", 0)), (("a", 1), (".", 0)))
        self.assert_same(symbols_of(trees), ((".", 0), ("a", 1), ("b", 0), ("f", 0), ("f", 1), ("f", 2)))

    def test_levels(self):
        self.assert_same((levels_of(DOT), levels_of(FA), levels_of(FFA), levels_of(DEEPEST_TREE)), (1, 2, 3, 60))
        self.assert_same(levels_of((("g", 2),) + FFA + A), 4)
        self.assert_same(levels_of((("g", 2),) + A + FFA), 4)
        self.assert_same(levels_of((("g", 2), ("g", 2)) + FFA + A + B), 5)
        self.assert_same(levels_of((("f", 1),) * 399 + A), 400)


class TestPlaces(Checks, unittest.TestCase):

    def test_examples(self):
        self.assert_same((place_of(G, 1), place_of(A, 0)), (((("g", 2),), (("b", 0),)), ((), ())))
        self.assert_same(put_at(((("g", 2),), (("b", 0),)), A), (("g", 2), ("a", 0), ("b", 0)))

    def test_places(self):
        for tree in TREES:
            for node in range(len(tree)):
                place = place_of(tree, node)
                self.assert_same(place, oracle.place(tree, node))
                self.assert_same(put_at(place, piece_at(tree, node)), tree)

    def test_put_at(self):
        self.assert_same(put_at(((), ()), G), G)
        for tree in SOME_TREES:
            for node in range(len(tree)):
                for piece in (A, FB, G):
                    self.assert_same(put_at(place_of(tree, node), piece), with_piece(tree, node, piece))


if __name__ == "__main__":
    unittest.main()
