"""What follows from the points on trees: each line of [20], and of the order in [11]."""

import unittest

from stoodthere.errors import InvalidPaper
from stoodthere.orders import is_ahead
from stoodthere.piecelists import pieces_of
from stoodthere.pieces import parts_of, piece_at, tree_of, with_piece
from stoodthere.places import place_of, put_at
from stoodthere.prices import fits, price_of
from stoodthere.treechecker import lets_tree
from stoodthere.treekinds import is_tree
from stoodthere.treereadings import read_pattern, read_tree
from stoodthere.treetexts import shown
from tests.checks import Checks
from tests.samples import SMALL_SYMBOLS, SMALL_TREES, SOME_TREES, WRONG_TREES, Draw, trees_up_to

TREES = SMALL_TREES[:80] + list(SOME_TREES)
PATTERNS = trees_up_to(SMALL_SYMBOLS + (("?", 0),), 4)
TEXTS = ["a", "f(a)", "f(f(a),.)", "w(a,b,c,d)", "a-1(b0)", "f(a", "f(a,)", "f()", "", ".", ".(a)", "a b", "abcdefghijklmnopq"]


class TestConsequences(Checks, unittest.TestCase):

    def test_the_checker_accepts_just_trees(self):
        for thing in list(WRONG_TREES) + TREES + PATTERNS:
            try:
                lets_tree(thing)
                accepted = True
            except InvalidPaper:
                accepted = False
            self.assert_same(accepted, is_tree(thing))

    def test_put_at_is_with_piece(self):
        for tree in TREES:
            for node in range(len(tree)):
                for piece in TREES[::17]:
                    self.assert_same(put_at(place_of(tree, node), piece), with_piece(tree, node, piece))
                self.assert_same(put_at(place_of(tree, node), piece_at(tree, node)), tree)

    def test_a_lesser_piece_makes_a_lesser_whole(self):
        draw = Draw(20)
        for _ in range(1500):
            tree, one, other = draw.one_of(TREES), draw.one_of(TREES), draw.one_of(TREES)
            node = draw.below(len(tree))
            whole, other_whole = with_piece(tree, node, one), with_piece(tree, node, other)
            self.assert_same(is_ahead(whole, other_whole), is_ahead(one, other))

    def test_parts_and_pieces(self):
        for tree in TREES:
            self.assert_same(tree_of(tree[0][0], parts_of(tree)), tree)
            at_nodes = {piece_at(tree, node) for node in range(len(tree))}
            self.assertEqual(set(pieces_of((tree,))), at_nodes)
            self.assertEqual(len(pieces_of((tree,))), len(at_nodes))

    def test_prices(self):
        draw = Draw(21)
        for _ in range(600):
            tree, other, third = draw.one_of(TREES), draw.one_of(TREES), draw.one_of(TREES)
            self.assertEqual(price_of(tree, other), price_of(other, tree))
            self.assertEqual(price_of(tree, other) == 0, tree == other)
            self.assertLessEqual(price_of(tree, other), price_of(tree, third) + price_of(third, other))

    def test_a_tree_is_fitted_by_itself_alone(self):
        for tree in TREES:
            for other in TREES:
                self.assert_same(fits(tree, other), tree == other)

    def test_texts(self):
        for tree in TREES:
            self.assert_same(read_tree(shown(tree)), tree)
        for pattern in PATTERNS:
            self.assert_same(read_pattern(shown(pattern)), pattern)
        for text in TEXTS:
            told = [self.outcome(reader, text) for reader in (read_tree, read_pattern)]
            self.assertEqual(told[0], told[1])

    def outcome(self, reader, text):
        try:
            tree = reader(text)
        except ValueError as error:
            return (type(error), vars(error))
        self.assert_same(shown(tree), text)
        return tree


if __name__ == "__main__":
    unittest.main()
