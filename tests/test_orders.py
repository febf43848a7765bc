"""Order, prices and patterns: [18]."""

import unittest

from stoodthere.orders import in_order, is_ahead, least_of
from stoodthere.prices import fits, holes_of, leaves_of, price_of, shared_of
from tests import oracle
from tests.checks import Checks
from tests.samples import A, B, BOTH, DOT, FA, FB, FFA, G, SMALL_TREES, SOME_TREES, WIDE, WRONG_TREES, Draw
from tests.samples import drawn_trees, trees_up_to

HOLE = (("?", 0),)
P = (("g", 2), ("?", 0), ("?", 0))
PATTERNS = trees_up_to((("?", 0), ("a", 0), ("f", 1), ("g", 2)), 5)


class TestOrder(Checks, unittest.TestCase):

    def test_examples(self):
        self.assert_same((is_ahead(B, FA), is_ahead(FB, FA), is_ahead(A, A)), (True, False, False))
        self.assert_same((least_of((FA, B)), least_of(())), ((("b", 0),), None))
        self.assert_same(in_order((FA, B, FA, A)), ((("a", 0),), (("b", 0),), (("f", 1), ("a", 0))))

    def test_fewer_symbols_are_ahead(self):
        z = (("z", 0),)
        self.assert_same((is_ahead(z, FA), is_ahead(FA, z)), (True, False))
        self.assert_same((is_ahead((("a", 1), ("a", 0)), z), is_ahead(z, (("a", 1), ("a", 0)))), (False, True))

    def test_as_many_symbols(self):
        one, two = (("f", 1), ("f", 2), ("a", 0), ("a", 0)), (("f", 2), ("a", 0), ("f", 1), ("a", 0))
        self.assert_same((is_ahead(one, two), is_ahead(two, one)), (True, False))
        self.assert_same((is_ahead(DOT, A), is_ahead((("a", 0),), (("a-", 0),))), (True, True))
        self.assert_same((is_ahead((("a-", 0),), (("a0", 0),)), is_ahead((("a9", 0),), (("aa", 0),))), (True, True))

    def test_order_is_total(self):
        for one, two in zip(SMALL_TREES, SMALL_TREES[1:]):
            self.assert_same((is_ahead(one, two), is_ahead(two, one)), (True, False))
        draw = Draw(5)
        for _ in range(500):
            one, two = draw.one_of(SMALL_TREES), draw.one_of(SOME_TREES)
            self.assert_same(is_ahead(one, two), oracle.key(one) < oracle.key(two))
            self.assert_same(is_ahead(two, one), oracle.key(two) < oracle.key(one))

    def test_least_and_in_order(self):
        for seed in range(20):
            trees = drawn_trees(seed, 12, 9)
            self.assert_same(in_order(trees + trees[3:6]), oracle.ordered(trees))
            self.assert_same(least_of(trees + trees[3:6]), oracle.ordered(trees)[0])
        self.assert_same((in_order(()), in_order((A, A)), least_of((A, A)), least_of((G,))), ((), (A,), A, G))

    def test_three_hundred_trees(self):
        many = tuple(reversed(SMALL_TREES)) * (300 // len(SMALL_TREES) + 1)
        self.assert_same(in_order(many[:300]), oracle.ordered(many[:300]))
        self.assert_same(least_of(many[:300]), oracle.ordered(many[:300])[0])

    def test_wrong_other(self):
        for thing in WRONG_TREES:
            for function in (is_ahead, shared_of, price_of):
                self.assert_not_usable("other", function, A, thing)
                self.assert_not_usable("other", function, G, thing)


class TestPrices(Checks, unittest.TestCase):

    def test_examples(self):
        self.assert_same((leaves_of(G), leaves_of(((".", 0),))), (("a", "b"), ()))
        told = (shared_of(G, (("g", 2), ("b", 0), ("b", 0))), price_of(G, FA), price_of(A, A))
        self.assert_same(told, (2, 6, 0))

    def test_leaves(self):
        for tree in SOME_TREES + tuple(SMALL_TREES):
            self.assert_same(leaves_of(tree), oracle.leaves(oracle.nested(tree)))
        self.assert_same(leaves_of(WIDE), ("a", "b", "a", "c"))
        self.assert_same(leaves_of((("f", 1), ("f", 0))), ("f",))

    def test_shared(self):
        trees = SMALL_TREES[:30] + list(SOME_TREES)
        for one in trees:
            for two in trees:
                many = oracle.shared(oracle.nested(one), oracle.nested(two))
                self.assert_same(shared_of(one, two), many)
                self.assert_same(price_of(one, two), len(one) + len(two) - 2 * many)

    def test_same_word_with_another_many_is_not_shared(self):
        self.assert_same(shared_of((("f", 1), ("a", 0)), (("f", 2), ("a", 0), ("a", 0))), 0)
        self.assert_same(shared_of((("f", 0),), (("f", 1), ("f", 0))), 0)

    def test_same_parts_at_other_numbers_are_not_shared(self):
        self.assert_same(shared_of(BOTH, (("g", 2), ("f", 1), ("b", 0), ("f", 1), ("a", 0))), 3)
        self.assert_same(shared_of((("g", 2),) + FA + B, (("g", 2),) + A + FB), 1)
        self.assert_same(price_of(FFA, FA), 3)

    def test_prices_of_three(self):
        draw = Draw(11)
        for _ in range(400):
            one, two, three = (draw.one_of(SMALL_TREES) for _ in range(3))
            self.assertEqual(price_of(one, two), price_of(two, one))
            self.assertEqual(price_of(one, two) == 0, one == two)
            self.assertLessEqual(price_of(one, two), price_of(one, three) + price_of(three, two))


class TestPatterns(Checks, unittest.TestCase):

    def test_examples(self):
        self.assert_same((holes_of(P), holes_of(A)), ((1, 2), ()))
        told = (fits(P, G), fits((("?", 0),), A), fits((("f", 1), ("?", 0)), B))
        self.assert_same(told, (True, True, False))

    def test_holes(self):
        self.assert_same(holes_of(HOLE), (0,))
        for pattern in PATTERNS:
            self.assert_same(holes_of(pattern), tuple(k for k, entry in enumerate(pattern) if entry[0] == "?"))

    def test_fits(self):
        for pattern in PATTERNS:
            for tree in SMALL_TREES[:60] + [G, BOTH, WIDE]:
                wanted = oracle.does_fit(oracle.nested(pattern), oracle.nested(tree))
                self.assert_same(fits(pattern, tree), wanted)

    def test_holes_are_filled_each_by_itself(self):
        for tree in (BOTH, (("g", 2),) + A + A, (("g", 2),) + WIDE + DOT):
            self.assert_same(fits(P, tree), True)
        self.assert_same(fits((("g", 2), ("f", 1), ("?", 0), ("b", 0)), G), True)
        self.assert_same(fits((("g", 2), ("?", 0), ("a", 0)), G), False)
        self.assert_same(fits((("g", 2), ("?", 0), ("b", 0)), (("g", 2),) + WIDE + B), True)
        self.assert_same(fits((("f", 2), ("?", 0), ("?", 0)), FA), False)

    def test_a_tree_is_fitted_by_itself_alone(self):
        for tree in SMALL_TREES[:50]:
            for other in SMALL_TREES[:50]:
                self.assert_same(fits(tree, other), tree == other)

    def test_wrong_tree(self):
        for thing in WRONG_TREES:
            self.assert_not_usable("tree", fits, P, thing)
            self.assert_not_usable("tree", fits, HOLE, thing)


if __name__ == "__main__":
    unittest.main()
