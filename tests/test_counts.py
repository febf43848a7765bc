"""How many trees a lot has, and their numbers: [85], [86] and [87]."""

import unittest

from stoodthere.counts import count_of, counts_to, lot_size
from stoodthere.numbering import ahead_count, next_tree, number_of, tree_at
from tests import oracle
from tests.checks import Checks
from tests.samples import A, B, BOTH, DEEPEST_TREE, EMPTY, EVEN, FA, FAIR_DEEP, FB, FFA, FOUND, G, LONG, ODD, ONE
from tests.samples import SMALL_SYMBOLS, WRONG_NUMBERS, WRONG_TREES, Draw, drawn_driven, trees_up_to

TWO = (1, (0,), ((0, "a", ()), (0, "b", ()), (0, "g", (0, 0))))
GAB = (("g", 2), ("a", 0), ("b", 0))
NOTHING = (EMPTY, (5, (), ()), (1, (0,), ()), (1, (), ((0, "a", ()),)), (2, (0, 1), ((0, "f", (1,)),)))
# Name 2 makes nothing, name 0 does not stand, and so the lot is finite.
BESIDE = (4, (1,), ((0, "a", ()), (0, "f", (0,)), (1, "b", ()), (1, "g", (2, 3)), (2, "f", (2,)), (3, "c", ())))
SYMBOLS = SMALL_SYMBOLS + (("h", 3),)
SIX = trees_up_to(SYMBOLS, 6)
# A word with other manies, and parts, is another symbol.
MIXED = (2, (0, 1), ((0, "a", ()), (0, "a", (0,)), (0, "a", (1, 0)), (1, "b", (0, 0, 0)), (1, "b", (0, 1, 0, 1))))


def tall(many, leaf):
    return (("f", 1),) * many + leaf


def full(many, depth):
    """A finite lot: g of two of the level below, many leaves at the lowest one."""
    rules = [(0, "x" + str(k), ()) for k in range(many)] + [(k + 1, "g", (k, k)) for k in range(depth)]
    return (depth + 1, (depth,), tuple(sorted(rules)))


class TestCounts(Checks, unittest.TestCase):

    def test_examples(self):
        self.assert_same((count_of(TWO, 3), counts_to(TWO, 5)), (4, (0, 2, 0, 4, 0, 16)))
        self.assert_same((lot_size(LONG), lot_size((0, (), ()))), (None, 0))

    def test_edges(self):
        for grammar in NOTHING:
            self.assert_same((count_of(grammar, 0), count_of(grammar, 60), lot_size(grammar)), (0, 0, 0))
            self.assert_same((counts_to(grammar, 0), counts_to(grammar, 60)), ((0,), (0,) * 61))
        self.assert_same((counts_to(LONG, 0), counts_to(LONG, 60)), ((0,), (0,) + (1,) * 60))
        self.assert_same(counts_to(EVEN, 6), (0, 1, 0, 1, 0, 1, 0))
        self.assert_same((count_of(ODD, 60), count_of(EVEN, 60), counts_to(FOUND, 4)), (1, 0, (0, 0, 2, 0, 0)))
        self.assert_same((counts_to(BESIDE, 3), lot_size(BESIDE)), ((0, 1, 0, 0), 1))

    def test_large_numbers(self):
        # With g of two: as many trees of 2 n + 1 symbols as Catalan's number of n, times two for each leaf.
        catalan = 1
        for n in range(30):
            self.assert_same(count_of(TWO, 2 * n + 1), catalan * 2 ** (n + 1))
            catalan = catalan * 2 * (2 * n + 1) // (n + 2)
        self.assert_same(count_of(TWO, 60), 0)
        self.assert_same((lot_size(full(2, 5)), lot_size(full(7, 7))), (2 ** 32, 7 ** 128))
        self.assert_same((count_of(full(3, 4), 31), lot_size(full(3, 4))), (3 ** 16, 3 ** 16))

    def test_sizes(self):
        self.assert_same((lot_size(ONE), lot_size(FOUND), lot_size((2, (0, 1), FOUND[2]))), (1, 2, 4))
        self.assert_same((lot_size(EVEN), lot_size(FAIR_DEEP), lot_size(MIXED)), (None, None, None))
        # A ring that makes nothing, or does not stand, makes no lot endless.
        ring = ((0, "a", ()), (1, "f", (1,)), (2, "b", ()), (2, "f", (2,)), (2, "g", (0, 1)))
        self.assert_same((lot_size((3, (0,), ring)), lot_size((3, (0, 1), ring)), lot_size((3, (2,), ring))), (1, 1, None))

    def test_drawn_grammars(self):
        draw = Draw(500)
        sizes = set()
        for _ in range(300):
            grammar = drawn_driven(draw, 1 + draw.below(4), 2 + draw.below(9), SYMBOLS)
            lot = oracle.lot_among(grammar, SIX)
            counts = tuple(len([tree for tree in lot if len(tree) == size]) for size in range(7))
            self.assert_same(counts_to(grammar, 6), counts)
            for size in (0, 1, 4, 6):
                self.assert_same(count_of(grammar, size), counts[size])
                self.assert_same(counts_to(grammar, size), counts[:size + 1])
            size = lot_size(grammar)
            sizes.add(size)
            if size is not None and all(len(tree) <= 6 for tree in self.whole_lot(grammar)):
                self.assert_same(size, len(lot))
        self.assertLessEqual({None, 0, 1, 2}, sizes)

    def whole_lot(self, grammar):
        """All trees of a finite lot, built by rules until no more come; at most a thousand."""
        made = [set() for _ in range(grammar[0])]
        for _ in range(grammar[0] + 1):
            for result, word, parts in grammar[2]:
                rows = [()]
                for part in parts:
                    rows = [row + tree for row in rows for tree in list(made[part])[:200]]
                made[result] |= {((word, len(parts)),) + row for row in rows[:1000]}
        return set().union(*[made[start] for start in grammar[1]])

    def test_finite_lots(self):
        draw = Draw(501)
        for _ in range(100):
            names = 2 + draw.below(3)
            rules = {}
            for _ in range(8):
                word, many = draw.one_of(SYMBOLS)
                result = draw.below(names)
                if result > 0 or many == 0:
                    rules.setdefault((word, tuple(draw.below(max(result, 1)) for _ in range(many))), result)
            grammar = (names, (names - 2, names - 1), tuple(sorted((result,) + rule for rule, result in rules.items())))
            lot = self.whole_lot(grammar)
            if len(lot) < 150:
                self.assert_same(lot_size(grammar), len(lot))
                self.assert_same(sum(counts_to(grammar, 60)), len([tree for tree in lot if len(tree) <= 60]))

    def test_wrong_parameters(self):
        for thing in WRONG_NUMBERS:
            self.assert_not_usable("nodes", count_of, LONG, thing)
            self.assert_not_usable("nodes", count_of, EMPTY, thing)
            self.assert_not_usable("most", counts_to, LONG, thing)
            self.assert_not_usable("most", counts_to, EMPTY, thing)


class TestNumbering(Checks, unittest.TestCase):

    def test_examples(self):
        self.assert_same((number_of(TWO, GAB), number_of(TWO, FA), tree_at(TWO, 1)), (3, None, (("b", 0),)))
        self.assert_same(tree_at((1, (0,), ((0, "a", ()),)), 1), None)
        self.assert_same((ahead_count(TWO, FA), ahead_count(TWO, GAB)), (2, 3))
        self.assert_same(next_tree(TWO, FA), (("g", 2), ("a", 0), ("a", 0)))
        self.assert_same(next_tree(TWO, B), next_tree(TWO, FB))

    def test_edges(self):
        for grammar in NOTHING:
            for tree in (A, FA, DEEPEST_TREE):
                told = (number_of(grammar, tree), ahead_count(grammar, tree), next_tree(grammar, tree))
                self.assert_same(told, (None, 0, None))
            self.assert_same((tree_at(grammar, 0), tree_at(grammar, 10 ** 199)), (None, None))
        self.assert_same((number_of(LONG, DEEPEST_TREE), tree_at(LONG, 59), tree_at(LONG, 0)), (59, DEEPEST_TREE, A))
        self.assert_same((next_tree(LONG, DEEPEST_TREE), ahead_count(LONG, G)), (tall(60, A), 4))
        self.assert_same(next_tree(LONG, (("z", 2), ("z", 0), ("z", 0))), tall(3, A))
        # A number that is the size of a finite lot, and those beside it.
        self.assert_same((tree_at(FOUND, 0), tree_at(FOUND, 1), tree_at(FOUND, 2), tree_at(FOUND, 3)), (FA, FB, None, None))
        self.assert_same((next_tree(FOUND, FA), next_tree(FOUND, FB), next_tree(FOUND, BOTH)), (FB, None, None))
        self.assert_same((tree_at(BESIDE, 0), tree_at(BESIDE, 1), next_tree(BESIDE, A)), (B, None, B))

    def test_trees_beside_the_lot(self):
        # Words that the grammar does not have, ahead of, between and behind its own; other manies.
        for tree, ahead in (((("0a", 0),), None), (A, 0), (B, 1), ((("aa", 0),), 1), ((("c", 0),), 2), (FA, 2),
                            ((("g", 1), ("a", 0)), 2), ((("g", 2), ("aa", 0), ("a", 0)), 4), ((("g", 2), ("b", 0), ("z", 0)), 6),
                            ((("f", 2), ("z", 0), ("z", 0)), 2), ((("h", 2), ("a", 0), ("a", 0)), 6),
                            ((("g", 2), (".", 0), ("b", 0)), 2)):
            if ahead is not None:
                self.assert_same(ahead_count(TWO, tree), ahead)
                self.assert_same(next_tree(TWO, tree), tree_at(TWO, ahead + (number_of(TWO, tree) is not None)))

    def test_large_numbers(self):
        for number in (10 ** 10, 3 ** 100, 10 ** 150, 10 ** 170 + 12345):
            tree = tree_at(TWO, number)
            self.assertLessEqual(len(tree), 400)
            self.assert_same((number_of(TWO, tree), ahead_count(TWO, tree)), (number, number))
            self.assert_same(next_tree(TWO, tree), tree_at(TWO, number + 1))
        last = full(10, 7)
        self.assert_same(lot_size(last), 10 ** 128)
        for number in (0, 1, 9, 10, 10 ** 127, 10 ** 128 - 2, 10 ** 128 - 1):
            tree = tree_at(last, number)
            self.assert_same((len(tree), number_of(last, tree)), (255, number))
            # The leaves, read one behind the other, are the figures of the number.
            figures = "".join(word[1:] for word, many in tree if many == 0)
            self.assertEqual(figures, str(number).zfill(128))
        for number in (10 ** 128, 10 ** 128 + 1, 10 ** 199):
            self.assert_same(tree_at(last, number), None)
        self.assert_same(next_tree(last, tree_at(last, 10 ** 128 - 1)), None)
        # Numbers of two hundred figures, written with forty leaves.
        wide = full(40, 7)
        for number in (10 ** 200 - 1, 10 ** 199, 3 ** 418, 40 ** 124 + 7):
            tree = tree_at(wide, number)
            self.assert_same((len(tree), number_of(wide, tree), ahead_count(wide, tree)), (255, number, number))
            ranked = sorted("x" + str(k) for k in range(40))
            figures = [ranked.index(word) for word, many in tree if many == 0]
            self.assertEqual(sum(figure * 40 ** k for k, figure in enumerate(figures[::-1])), number)

    def test_there_and_back(self):
        draw = Draw(502)
        told = 0
        for k in range(160):
            grammar, trees = drawn_driven(draw, 1 + draw.below(4), 3 + draw.below(9), SYMBOLS), SIX
            if k == 0:
                grammar, trees = MIXED, trees_up_to((("a", 0), ("a", 1), ("a", 2), ("b", 3), ("b", 4)), 6)
            lot = oracle.lot_among(grammar, trees)
            for number in sorted({draw.below(len(lot)) for _ in range(12)} | {0, len(lot) - 1} if lot else ()):
                self.assert_same(tree_at(grammar, number), lot[number])
                self.assert_same(number_of(grammar, lot[number]), number)
                told += 1
            for tree in draw.some_of(trees, 8) + draw.some_of(lot, 4):
                ahead = [other for other in lot if oracle.key(other) < oracle.key(tree)]
                self.assert_same(ahead_count(grammar, tree), len(ahead))
                self.assert_same(number_of(grammar, tree), len(ahead) if tree in lot else None)
                behind = [other for other in lot if oracle.key(other) > oracle.key(tree)]
                if behind:
                    self.assert_same(next_tree(grammar, tree), behind[0])
                elif lot_size(grammar) == len(lot):
                    self.assert_same(next_tree(grammar, tree), None)
            if lot_size(grammar) == len(lot):
                self.assert_same((tree_at(grammar, len(lot)), tree_at(grammar, len(lot) + 5)), (None, None))
        self.assertGreater(told, 500)

    def test_long_lots(self):
        """Trees behind those that are listed one by one: they stand in order, and none is left out."""
        draw = Draw(503)
        for _ in range(25):
            grammar = drawn_driven(draw, 1 + draw.below(3), 4 + draw.below(7), SYMBOLS)
            size = lot_size(grammar)
            # No farther than among the trees of sixty symbols.
            first = draw.below(sum(counts_to(grammar, 60)) + 1) - 4
            if size is not None or first < 0:
                continue
            trees = [tree_at(grammar, first + k) for k in range(4)]
            self.assertEqual(trees, sorted(trees, key=oracle.key))
            self.assertEqual(len(set(trees)), 4)
            self.assertEqual(oracle.lot_among(grammar, trees), trees)
            for k, tree in enumerate(trees):
                self.assert_same(number_of(grammar, tree), first + k)
            self.assert_same([next_tree(grammar, tree) for tree in trees[:3]], trees[1:])

    def test_wrong_parameters(self):
        for thing in WRONG_TREES:
            for function in (number_of, ahead_count, next_tree):
                self.assert_not_usable("tree", function, TWO, thing)
                self.assert_not_usable("tree", function, EMPTY, thing)
        for thing in WRONG_NUMBERS:
            self.assert_not_usable("number", tree_at, TWO, thing)
            self.assert_not_usable("number", tree_at, EMPTY, thing)


if __name__ == "__main__":
    unittest.main()
