"""Holes, mending and floors: [88], [89] and [90]."""

import unittest

from stoodthere.floorchecker import lets_floors
from stoodthere.floors import floors_of
from stoodthere.holes import fill_count, hole_names, least_fill
from stoodthere.leasttrees import least_trees
from stoodthere.mending import mend_of
from stoodthere.trims import trimmed
from tests import oracle
from tests.checks import Checks
from tests.samples import A, B, BOTH, DEEPEST_TREE, EMPTY, EVEN, FA, FAIR_DEEP, FB, FFA, FOUND, G, LONG, ODD, ONE
from tests.samples import SMALL_SYMBOLS, WRONG_NUMBERS, WRONG_TREES, Draw, drawn_driven, trees_up_to

TWO = (1, (0,), ((0, "a", ()), (0, "b", ()), (0, "g", (0, 0))))
GAB = (("g", 2), ("a", 0), ("b", 0))
HOLE = ("?", 0)
P = (("g", 2), HOLE, ("b", 0))
NOTHING = (EMPTY, (5, (), ()), (1, (0,), ()), (1, (), ((0, "a", ()),)), (2, (0, 1), ((0, "f", (1,)),)))
BESIDE = (4, (1,), ((0, "a", ()), (0, "f", (0,)), (1, "b", ()), (1, "g", (2, 3)), (2, "f", (2,)), (3, "c", ())))
SYMBOLS = SMALL_SYMBOLS + ((".", 0),)
SIX = trees_up_to(SYMBOLS, 6)
SEVEN = trees_up_to(SMALL_SYMBOLS, 7)
# None of these is a pattern.
WRONG_PATTERNS = tuple(thing for thing in WRONG_TREES if thing not in ((("?", 0),), (("f", 1), ("?", 0)))) + (
    (("?", 1), A[0]), (("?", False),), (("?", 0), ("?", 0)), (["?", 0],), (("??", 0),), (("g", 2), HOLE), HOLE, "?",
)


def punched(draw, tree, many):
    """The pattern with so many holes, as far as they fit, where pieces of tree stood."""
    pattern = tree
    for _ in range(many):
        node = draw.below(len(pattern))
        pieces = oracle.nodes(oracle.nested(pattern))
        pattern = pattern[:node] + (HOLE,) + pattern[node + len(pieces[node]):]
    return pattern


def fitting(pattern, trees):
    return [tree for tree in trees if oracle.does_fit(oracle.nested(pattern), oracle.nested(tree))]


class TestHoles(Checks, unittest.TestCase):

    def test_examples(self):
        self.assert_same((least_fill(TWO, P), fill_count(TWO, P, 5), hole_names(TWO, P)), (GAB, 4, (0,)))
        self.assert_same((least_fill(LONG, P), hole_names(LONG, P)), (None, ()))
        self.assert_not_usable("pattern", hole_names, TWO, A)

    def test_hole_alone(self):
        self.assert_same((least_fill(FOUND, (HOLE,)), least_fill(EVEN, (HOLE,)), least_fill(BESIDE, (HOLE,))), (FA, A, B))
        self.assert_same([fill_count(LONG, (HOLE,), nodes) for nodes in (0, 1, 59, 60)], [0, 1, 1, 1])
        self.assert_same((hole_names(FAIR_DEEP, (HOLE,)), hole_names(BESIDE, (HOLE,))), ((0, 1), (1,)))
        for grammar in NOTHING:
            told = (least_fill(grammar, (HOLE,)), fill_count(grammar, (HOLE,), 1), hole_names(grammar, (HOLE,)))
            self.assert_same(told, (None, 0, ()))

    def test_without_a_hole(self):
        self.assert_same((least_fill(TWO, GAB), least_fill(TWO, FA), least_fill(EVEN, FA)), (GAB, None, None))
        self.assert_same([fill_count(TWO, GAB, nodes) for nodes in (0, 2, 3, 4, 60)], [0, 0, 1, 0, 0])
        self.assert_same(least_fill(LONG, DEEPEST_TREE), DEEPEST_TREE)
        self.assert_same(fill_count(LONG, DEEPEST_TREE, 60), 1)

    def test_several_holes(self):
        both = (("g", 2), HOLE, HOLE)
        self.assert_same((least_fill(TWO, both), fill_count(TWO, both, 5)), ((("g", 2),) + A + A, 16))
        # Names that do not stand in the lot, or that make nothing.
        self.assert_same((least_fill(BESIDE, both), fill_count(BESIDE, both, 3)), (None, 0))
        two_names = (3, (2,), ((0, "a", ()), (0, "f", (0,)), (1, "b", ()), (2, "g", (0, 1)), (2, "g", (1, 0))))
        self.assert_same(least_fill(two_names, both), GAB)
        self.assert_same([fill_count(two_names, both, nodes) for nodes in range(6)], [0, 0, 0, 2, 2, 2])
        self.assert_same(hole_names(two_names, (("g", 2), HOLE, ("b", 0))), (0,))
        self.assert_same(hole_names(two_names, (("g", 2), ("a", 0), HOLE)), (1,))
        self.assert_same(hole_names(two_names, (("g", 2), ("f", 1), HOLE, ("b", 0))), (0,))
        self.assert_same(fill_count(TWO, (("g", 2), ("f", 1), HOLE, HOLE), 9), 0)

    def test_names_that_do_not_stand(self):
        # Name 1 makes f(a) as a piece of nothing: no hole of the lot takes it.
        grammar = (2, (0,), ((0, "a", ()), (0, "h", (0,)), (1, "f", (0,))))
        self.assert_same((hole_names(grammar, (HOLE,)), hole_names(grammar, (("f", 1), HOLE))), ((0,), ()))
        self.assert_same(hole_names(grammar, (("h", 1), HOLE)), (0,))

    def test_drawn_patterns(self):
        draw = Draw(510)
        filled = 0
        for _ in range(250):
            grammar = drawn_driven(draw, 1 + draw.below(4), 3 + draw.below(9), SYMBOLS)
            lot = oracle.lot_among(grammar, SIX)
            for _ in range(4):
                pattern = punched(draw, draw.one_of(lot or SIX) if draw.below(3) else draw.one_of(SIX), draw.below(4))
                trees = fitting(pattern, lot)
                told = least_fill(grammar, pattern)
                if trees:
                    filled += 1
                    self.assert_same(told, trees[0])
                elif told is not None:
                    self.assertGreater(len(told), 6)
                    self.assertEqual(fitting(pattern, oracle.lot_among(grammar, [told])), [told])
                for nodes in range(7):
                    self.assert_same(fill_count(grammar, pattern, nodes),
                                     len([tree for tree in trees if len(tree) == nodes]))
                self.check_hole_names(grammar, pattern)
        self.assertGreater(filled, 200)

    def check_hole_names(self, grammar, pattern):
        holes = [node for node, entry in enumerate(pattern) if entry == HOLE]
        if len(holes) != 1:
            self.assert_not_usable("pattern", hole_names, grammar, pattern)
            return
        wanted = []
        for name, tree in enumerate(least_trees(grammar)):
            if tree is not None:
                whole = pattern[:holes[0]] + tree + pattern[holes[0] + 1:]
                if oracle.lot_among(grammar, [whole]):
                    wanted.append(name)
        self.assert_same(hole_names(grammar, pattern), tuple(wanted))

    def test_wrong_parameters(self):
        for thing in WRONG_PATTERNS:
            self.assert_not_usable("pattern", least_fill, TWO, thing)
            self.assert_not_usable("pattern", fill_count, TWO, thing, 3)
            self.assert_not_usable("pattern", fill_count, TWO, thing, None)
            self.assert_not_usable("pattern", hole_names, TWO, thing)
            self.assert_not_usable("pattern", hole_names, EMPTY, thing)
        for thing in WRONG_NUMBERS:
            self.assert_not_usable("nodes", fill_count, TWO, P, thing)
        for pattern in (A, G, (("g", 2), HOLE, HOLE), DEEPEST_TREE):
            self.assert_not_usable("pattern", hole_names, EMPTY, pattern)


class TestMending(Checks, unittest.TestCase):

    def best(self, tree, trees):
        """The least price of trees, all that may be as near, and the least of those that have it."""
        whole = oracle.nested(tree)
        prices = [(len(tree) + len(other) - 2 * oracle.shared(whole, oracle.nested(other)), oracle.key(other))
                  for other in trees]
        price, (_, sentence) = min(prices)
        return (price, sentence)

    def test_examples(self):
        self.assert_same(mend_of(TWO, (("g", 2), ("f", 1), ("a", 0), ("b", 0))), (3, GAB))
        self.assert_same((mend_of(LONG, FFA), mend_of((0, (), ()), A)), ((0, FFA), None))

    def test_edges(self):
        for grammar in NOTHING:
            for tree in (A, G, DEEPEST_TREE):
                self.assert_same(mend_of(grammar, tree), None)
        self.assert_same((mend_of(LONG, B), mend_of(LONG, FB), mend_of(LONG, DEEPEST_TREE)), ((2, A), (2, FA), (0, DEEPEST_TREE)))
        self.assert_same((mend_of(EVEN, FA), mend_of(ODD, A), mend_of(BESIDE, BOTH)), ((3, A), (3, FA), (6, B)))
        # Of trees with the same price the least one.
        self.assert_same(mend_of(TWO, (("c", 0),)), (2, A))
        self.assert_same(mend_of(TWO, (("g", 2), ("c", 0), ("c", 0))), (4, A))
        self.assert_same(mend_of(TWO, (("g", 2), ("c", 0)) + B), (2, (("g", 2),) + A + B))
        self.assert_same(mend_of(TWO, (("g", 3),) + A + B + A), (5, A))
        # Nearer by a far longer tree.
        far = (2, (0, 1), tuple(sorted([(0, "a", ()), (1, "g", (1, 0)), (1, "g", (0, 0))])))
        tree = (("g", 2),) * 10 + A + (("c", 0),) * 10
        self.assert_same(mend_of(far, tree), (20, (("g", 2),) * 10 + A * 11))

    def test_drawn_trees(self):
        """In a lot the trees with at most as many symbols as the tree and the price tell are all that can be as near."""
        draw = Draw(511)
        held = 0
        for _ in range(250):
            grammar = drawn_driven(draw, 1 + draw.below(4), 3 + draw.below(8))
            lot = oracle.lot_among(grammar, SEVEN)
            for _ in range(3):
                tree = draw.one_of(SEVEN[:120])
                told = mend_of(grammar, tree)
                if told is None:
                    self.assertEqual(lot, [])
                    continue
                self.assertEqual(oracle.lot_among(grammar, [told[1]]), [told[1]])
                self.assert_same(self.best(tree, [told[1]]), told)
                # A tree that shares all that it can is dearer, if it has more symbols than these.
                if len(tree) + told[0] <= 7:
                    held += 1
                    self.assert_same(told, self.best(tree, lot))
                elif lot:
                    self.assertLessEqual((told[0], oracle.key(told[1])),
                                         (lambda best: (best[0], oracle.key(best[1])))(self.best(tree, lot)))
        self.assertGreater(held, 100)

    def test_wrong_trees(self):
        for thing in WRONG_TREES:
            self.assert_not_usable("tree", mend_of, LONG, thing)
            self.assert_not_usable("tree", mend_of, EMPTY, thing)


class TestFloors(Checks, unittest.TestCase):

    def fault(self, grammar, tree, z, h):
        """Each rule of [90] read one by one; what lets_floors refuses, or what the floors tell."""
        for k, (result, _, parts) in enumerate(grammar[2]):
            most = [1 + sum(z[part][0] for part in parts), 1 + sum(z[part][1] for part in parts)]
            if list(z[result]) > most:
                return ("rule", k)
        pieces = oracle.nodes(oracle.nested(tree))
        for node, piece in enumerate(pieces):
            lower, begin = [], node + 1
            for _ in range(tree[node][1]):
                lower.append(begin)
                begin += len(pieces[begin])
            for result, word, parts in grammar[2]:
                if tree[node] == (word, len(parts)):
                    rows, first = [h[below][part] for below, part in zip(lower, parts)], 0
                else:
                    rows, first = [z[part] for part in parts], len(piece) + 1
                if list(h[node][result]) > [first + sum(row[0] for row in rows), 1 + sum(row[1] for row in rows)]:
                    return ("floor", node)
        return min(h[0][start] for start in grammar[1])

    def check(self, grammar, tree, sheet):
        told = self.fault(grammar, tree, *sheet)
        if told[0] in ("rule", "floor"):
            self.assert_refused(told[0], told[1], lets_floors, grammar, tree, sheet)
        else:
            self.assert_same(lets_floors(grammar, tree, sheet), told)
        return told

    def test_examples(self):
        self.assert_same(lets_floors(LONG, B, (((1, 1),), (((2, 1),),))), (2, 1))
        self.assert_refused("rule", 0, lets_floors, LONG, B, (((2, 2),), (((2, 1),),)))
        self.assert_refused("floor", 0, lets_floors, LONG, B, (((1, 1),), (((2, 2),),)))

    def test_floors_tell_the_mend(self):
        for grammar in (LONG, EVEN, ODD, FOUND, FAIR_DEEP, ONE, TWO):
            for tree in (A, B, FA, FB, FFA, G, BOTH, GAB, DEEPEST_TREE):
                sheet = floors_of(grammar, tree)
                self.assertEqual((type(sheet), len(sheet), len(sheet[0]), len(sheet[1])), (tuple, 2, grammar[0], len(tree)))
                price, sentence = mend_of(grammar, tree)
                self.assert_same(self.check(grammar, tree, sheet), (price, len(sentence)))

    def drawn(self, seed, many):
        draw = Draw(seed)
        for _ in range(many):
            grammar = trimmed(drawn_driven(draw, 1 + draw.below(4), 3 + draw.below(8)))
            if grammar[0] > 0:
                yield draw, grammar, draw.one_of(SEVEN[:150])

    def changed(self, sheet, node, name, entry, more):
        """The sheet with one number more or less: in z, or in h at a node."""
        z, h = sheet
        row = z if node is None else h[node]
        pair = tuple(number + (more if k == entry else 0) for k, number in enumerate(row[name]))
        row = row[:name] + (pair,) + row[name + 1:]
        return (row, h) if node is None else (z, h[:node] + (row,) + h[node + 1:])

    def test_drawn_floors(self):
        """Those of floors_of, and the same with one number raised or lowered."""
        seen = {}
        for draw, grammar, tree in self.drawn(512, 200):
            sheet = floors_of(grammar, tree)
            price, sentence = mend_of(grammar, tree)
            self.assert_same(self.check(grammar, tree, sheet), (price, len(sentence)))
            for _ in range(8):
                node = draw.one_of((None,) + tuple(range(len(tree))))
                other = self.changed(sheet, node, draw.below(grammar[0]), draw.below(2), draw.one_of((1, -1, 1, 7, -10 ** 59)))
                told = self.check(grammar, tree, other)
                word = told[0] if told[0] in ("rule", "floor") else "kept"
                seen[word] = seen.get(word, 0) + 1
        self.assertGreater(min(seen[word] for word in ("rule", "floor", "kept")), 100)

    def test_shape(self):
        z, h = floors_of(EVEN, FA)
        self.assertEqual((len(z), len(h)), (2, 2))
        rows = (None, True, 0, "", (), [], list(z), z[:1], z + z[:1], (z[0], None), (z[0], list(z[1])), (z[0], (1,)),
                (z[0], (1, 2, 3)), (z[0], (True, 1)), (z[0], (1, False)), (z[0], (1, None)), (z[0], (1, "1")))
        for row in rows:
            self.assert_refused("shape", -1, lets_floors, EVEN, FA, (row, h))
            self.assert_refused("shape", -1, lets_floors, EVEN, FA, (z, (row, h[1])))
            self.assert_refused("shape", -1, lets_floors, EVEN, FA, (z, (h[0], row)))
        for thing in (None, True, 0, "", "zh", (), [], [z, h], (z,), (z, h, h), (z, list(h)), (z, h[:1]), (z, h + h), (z, None)):
            self.assert_refused("shape", -1, lets_floors, EVEN, FA, thing)
        # Numbers below 0 are integers, too.
        low = ((-5, -1), (-5, -1))
        self.assert_same(lets_floors(EVEN, FA, (low, (low, low))), (-5, -1))

    def test_each_entry_comes_ahead_of_later_ones(self):
        z, h = floors_of(EVEN, FA)
        bad_z, bad_h = ((9, 9), (9, 9)), (((9, 9), (9, 9)), ((9, 9), (9, 9)))
        self.assert_refused("shape", -1, lets_floors, EVEN, FA, (bad_z, bad_h[:1]))
        self.assert_refused("rule", 0, lets_floors, EVEN, FA, (bad_z, bad_h))
        self.assert_refused("rule", 2, lets_floors, EVEN, FA, ((z[0], (9, 9)), bad_h))
        self.assert_refused("floor", 0, lets_floors, EVEN, FA, (z, bad_h))
        self.assert_refused("floor", 1, lets_floors, EVEN, FA, (z, (h[0], bad_h[1])))
        # A floor at a node may be wrong for a later rule alone.
        self.assert_refused("floor", 0, lets_floors, EVEN, FA, (z, ((h[0][0], (99, 0)), h[1])))

    def test_wrong_trees(self):
        sheet = floors_of(LONG, A)
        for thing in WRONG_TREES:
            self.assert_not_usable("tree", floors_of, LONG, thing)
            self.assert_not_usable("tree", lets_floors, LONG, thing, sheet)
            self.assert_not_usable("tree", lets_floors, LONG, thing, None)


if __name__ == "__main__":
    unittest.main()
