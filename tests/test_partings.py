"""How two lots part, endless lots, and their rings: [55] and [56]."""

import unittest

from stoodthere.making import takes
from stoodthere.partings import lies_within, parting_of
from stoodthere.ringchecker import lets_ring
from stoodthere.rings import pumped, ring_of
from tests import oracle
from tests.checks import Checks
from tests.samples import A, B, BOTH, DEEPEST_TREE, EMPTY, EVEN, FA, FAIR_DEEP, FB, FFA, FOUND, G, LONG, ODD, ONE
from tests.samples import SMALL_SYMBOLS, SOME_TREES, WRONG_GRAMMARS, WRONG_NUMBERS, WRONG_TREES, Draw, drawn_driven
from tests.samples import trees_up_to

SIX = trees_up_to(SMALL_SYMBOLS, 6)
SEVEN = trees_up_to(SMALL_SYMBOLS, 7)
NOT_DRIVEN = ((2, (0,), ((0, "a", ()), (1, "a", ()))), (2, (0,), ((0, "f", (0, 1)), (1, "f", (0, 1)))))
# Name 2 makes nothing, name 0 does not stand, and so the lot is finite.
BESIDE = (4, (1,), ((0, "a", ()), (0, "f", (0,)), (1, "b", ()), (1, "g", (2, 3)), (2, "f", (2,)), (3, "c", ())))


def tall(many, leaf):
    return (("f", 1),) * many + leaf


class TestPartings(Checks, unittest.TestCase):

    def test_examples(self):
        self.assert_same((parting_of(LONG, ONE), lies_within(ONE, LONG)), (FA, True))

    def test_edges(self):
        for grammar in (EMPTY, LONG, EVEN, ODD, FAIR_DEEP, FOUND, BESIDE):
            self.assert_same((parting_of(EMPTY, grammar), lies_within(EMPTY, grammar)), (None, True))
            self.assert_same((parting_of(grammar, grammar), lies_within(grammar, grammar)), (None, True))
        self.assert_same((parting_of(LONG, EMPTY), parting_of(FOUND, EMPTY), parting_of(BESIDE, EMPTY)), (A, FA, B))
        self.assert_same((parting_of(LONG, FAIR_DEEP), parting_of(FAIR_DEEP, LONG)), (None, None))

    def test_least_trees(self):
        self.assert_same((parting_of(LONG, EVEN), parting_of(LONG, ODD), parting_of(EVEN, ODD)), (FA, A, A))
        self.assert_same((parting_of(ODD, EVEN), parting_of(EVEN, LONG)), (FA, None))
        both = (1, (0,), ((0, "a", ()), (0, "b", ()), (0, "f", (0,)), (0, "g", (0, 0))))
        self.assert_same((parting_of(both, LONG), parting_of(both, FOUND)), (B, A))
        no_b = (1, (0,), ((0, "a", ()), (0, "f", (0,)), (0, "g", (0, 0))))
        self.assert_same(parting_of((1, (0,), no_b[2][:1] + ((0, "g", (0, 0)),)), LONG), (("g", 2),) + A + A)
        self.assert_same(parting_of(both, no_b), B)

    def test_long_least_trees(self):
        """Lots of f, as often as 7 divides, or 11: the first of the one that is not in the other one."""
        loops = []
        for many in (7, 11):
            rules = ((0, "a", ()),) + tuple((k, "f", ((k - 1) % many,)) for k in range(many))
            loops.append((many, (0,), tuple(sorted(rules))))
        self.assert_same((parting_of(loops[0], loops[1]), parting_of(loops[1], loops[0])), (tall(7, A), tall(11, A)))
        starts = (loops[1][0], tuple(range(1, 11)), loops[1][2])
        self.assert_same(parting_of(loops[0], starts), A)
        starts = (loops[1][0], tuple(range(10)), loops[1][2])
        self.assert_same(parting_of(loops[0], starts), tall(21, A))

    def test_names_that_do_not_stand(self):
        self.assert_same((parting_of(BESIDE, LONG), parting_of(LONG, BESIDE)), (B, A))
        self.assert_same((parting_of(BESIDE, (1, (0,), ((0, "b", ()),))), lies_within(BESIDE, BESIDE)), (None, True))
        self.assert_same(parting_of((2, (0,), ((0, "f", (1,)),)), EMPTY), None)

    def test_drawn_grammars(self):
        draw = Draw(240)
        told = {True: 0, False: 0}
        for _ in range(250):
            one = drawn_driven(draw, 1 + draw.below(3), 2 + draw.below(8))
            other = drawn_driven(draw, 1 + draw.below(3), 2 + draw.below(8))
            if draw.below(2):
                other = (one[0], one[1], tuple(sorted(set(draw.some_of(one[2], len(one[2]) - 1)))))
            apart = [tree for tree in oracle.lot_among(one, SIX) if not oracle.lot_among(other, [tree])]
            parting = parting_of(one, other)
            self.assert_same(lies_within(one, other), parting is None)
            told[parting is None] += 1
            if apart:
                self.assert_same(parting, apart[0])
            elif parting is not None:
                self.assertGreater(len(parting), 6)
                self.assertTrue(oracle.lot_among(one, [parting]) and not oracle.lot_among(other, [parting]))
        self.assertGreater(min(told.values()), 40)

    def test_wrong_other(self):
        for thing in WRONG_GRAMMARS + NOT_DRIVEN:
            for function in (parting_of, lies_within):
                self.assert_not_usable("other", function, LONG, thing)
                self.assert_not_usable("other", function, EMPTY, thing)


class TestRings(Checks, unittest.TestCase):

    def check_ring(self, grammar, ring):
        """All that [56] asks of a ring, by the definitions."""
        self.assertIs(type(ring), tuple)
        tree, node, inner = ring
        self.assertTrue(oracle.lot_among(grammar, [tree]))
        pieces = oracle.nodes(oracle.nested(tree))
        self.assertTrue(0 <= node < inner < node + len(pieces[node]))
        names = [oracle.names_of(grammar, oracle.nested(pieces[k])) for k in (node, inner)]
        self.assertEqual(len(names[0]), 1)
        self.assertEqual(names[0], names[1])
        self.assert_same(lets_ring(grammar, ring), min(names[0]))

    def test_finite_lots(self):
        for grammar in (EMPTY, ONE, FOUND, BESIDE, (1, (), LONG[2]), (2, (0, 1), ((0, "a", ()), (1, "g", (0, 0))))):
            self.assert_same(ring_of(grammar), None)

    def test_endless_lots(self):
        for grammar in (LONG, EVEN, ODD, FAIR_DEEP, (1, (0,), ((0, "a", ()), (0, "w", (0, 0, 0, 0))))):
            self.check_ring(grammar, ring_of(grammar))

    def test_rings_below_other_names(self):
        rules = ((0, "a", ()), (0, "f", (1,)), (1, "b", ()), (1, "g", (0, 2)), (2, "c", ()), (3, "h", (0, 1)))
        self.check_ring((4, (3,), rules), ring_of((4, (3,), rules)))
        self.check_ring((4, (2, 3), rules), ring_of((4, (2, 3), rules)))

    def test_long_rings(self):
        many = 40
        rules = tuple(sorted([(0, "a", ())] + [(k, "f", ((k - 1) % many,)) for k in range(many)]))
        for start in (0, 20, 39):
            ring = ring_of((many, (start,), rules))
            self.check_ring((many, (start,), rules), ring)
            self.assertLessEqual(len(ring[0]), 81)

    def test_drawn_grammars(self):
        """None exactly where no name of a trimmed grammar comes below itself."""
        draw = Draw(241)
        told = {True: 0, False: 0}
        for _ in range(250):
            grammar = drawn_driven(draw, 1 + draw.below(4), 2 + draw.below(6))
            ring = ring_of(grammar)
            told[ring is None] += 1
            self.assertEqual(ring is None, not self.has_loop(grammar))
            if ring is not None:
                self.check_ring(grammar, ring)
        self.assertGreater(min(told.values()), 40)

    def has_loop(self, grammar):
        """Whether some name that makes a tree and stands in the lot comes below itself."""
        trim = oracle.renamed(grammar, sorted(oracle.live_names(grammar)))
        below = {(result, part) for result, _, parts in trim[2] for part in parts}
        for _ in range(trim[0]):
            below |= {(one, four) for one, two in below for three, four in below if two == three}
        return any(one == two for one, two in below)


class TestPumped(Checks, unittest.TestCase):

    def test_examples(self):
        self.assert_same((pumped(FFA, 0, 1, 0), pumped(FA, 0, 1, 2)), (FA, FFA))

    def test_times(self):
        tree = (("h", 1),) + G
        self.assert_same(pumped(tree, 1, 2, 0), (("h", 1),) + FA)
        self.assert_same(pumped(tree, 1, 2, 1), tree)
        self.assert_same(pumped(tree, 1, 2, 2), (("h", 1), ("g", 2), ("g", 2)) + FA + B + B)
        self.assert_same(pumped(tree, 1, 4, 3), (("h", 1),) + (("g", 2), ("f", 1), ("a", 0)) * 3 + B)
        self.assert_same(pumped(tree, 2, 3, 2), (("h", 1), ("g", 2), ("f", 1)) + FA + B)
        self.assert_same(pumped(FFA, 0, 2, 50), tall(100, A))
        self.assert_same(pumped(DEEPEST_TREE, 0, 59, 0), A)
        self.assert_same(len(pumped(BOTH, 0, 1, 50)), 2 + 50 * 3)

    def test_by_hand(self):
        for tree in SOME_TREES[:30]:
            whole = oracle.nested(tree)
            pieces, paths = oracle.nodes(whole), oracle.paths(whole)
            for node in range(len(tree)):
                for inner in range(node + 1, node + len(pieces[node])):
                    way = paths[inner][len(paths[node]):]
                    piece = oracle.nested(pieces[inner])
                    for times in range(4):
                        wanted = oracle.flat(oracle.replaced(whole, paths[node], piece))
                        self.assert_same(pumped(tree, node, inner, times), wanted)
                        piece = oracle.replaced(oracle.nested(pieces[node]), way, piece)

    def test_wrong_parameters(self):
        for thing in WRONG_NUMBERS + (4, 5, 10 ** 59):
            self.assert_not_usable("node", pumped, G, thing, 2, 1)
            self.assert_not_usable("node", pumped, G, thing, None, None)
        for node, inners in ((0, (0, 4)), (1, (0, 1, 3)), (2, (0, 1, 2, 3)), (3, (0, 1, 2, 3))):
            for inner in WRONG_NUMBERS + inners + (10 ** 59,):
                self.assert_not_usable("inner", pumped, G, node, inner, 1)
                self.assert_not_usable("inner", pumped, G, node, inner, None)
        for thing in WRONG_NUMBERS:
            self.assert_not_usable("times", pumped, G, 0, 1, thing)


class TestRingChecker(Checks, unittest.TestCase):

    def test_rings(self):
        self.assert_same(lets_ring(LONG, (FFA, 1, 2)), 0)
        self.assert_same(lets_ring(EVEN, (tall(4, A), 1, 3)), 1)
        self.assert_same(lets_ring(EVEN, (tall(4, A), 0, 4)), 0)
        self.assert_same(lets_ring(LONG, (tall(300, A), 7, 299)), 0)

    def test_shape(self):
        for thing in (None, True, 0, "", "abc", (), [], (FFA,), (FFA, 1), [FFA, 1, 2], (FFA, 1, 2, 3), FA, 10 ** 59):
            self.assert_refused("shape", -1, lets_ring, LONG, thing)
            self.assert_refused("shape", -1, lets_ring, EMPTY, thing)

    def test_tree(self):
        for tree in WRONG_TREES + (B, FB, G):
            self.assert_refused("tree", -1, lets_ring, LONG, (tree, 0, 1))
            self.assert_refused("tree", -1, lets_ring, LONG, (tree, None, None))
        self.assert_refused("tree", -1, lets_ring, EMPTY, (A, 0, 0))
        # Name 1 makes f(a), but it is no start.
        self.assert_refused("tree", -1, lets_ring, EVEN, (FA, 0, 1))

    def test_node(self):
        for node in WRONG_NUMBERS + (3, 4, 10 ** 59):
            self.assert_refused("node", -1, lets_ring, LONG, (FFA, node, 1))
            self.assert_refused("node", -1, lets_ring, LONG, (FFA, node, None))

    def test_inner(self):
        grammar = (1, (0,), ((0, "a", ()), (0, "b", ()), (0, "f", (0,)), (0, "g", (0, 0))))
        for node, inners in ((0, (0, 4)), (1, (0, 1, 3)), (2, (1, 2, 3)), (3, (2, 3, 4))):
            for inner in WRONG_NUMBERS + inners + (10 ** 59,):
                self.assert_refused("inner", -1, lets_ring, grammar, (G, node, inner))
        self.assert_same(lets_ring(grammar, (G, 0, 3)), 0)

    def test_name(self):
        self.assert_refused("name", -1, lets_ring, EVEN, (FFA, 0, 1))
        self.assert_refused("name", -1, lets_ring, FAIR_DEEP, (FFA, 0, 2))
        self.assert_same(lets_ring(FAIR_DEEP, (FFA, 0, 1)), 1)
        self.assert_refused("name", -1, lets_ring, FOUND, (FA, 0, 1))

    def test_each_entry_comes_ahead_of_later_ones(self):
        self.assert_refused("shape", -1, lets_ring, EVEN, (FA, 9))
        self.assert_refused("tree", -1, lets_ring, EVEN, (FA, 9, 9))
        self.assert_refused("node", -1, lets_ring, EVEN, (FFA, 9, 9))
        self.assert_refused("inner", -1, lets_ring, EVEN, (FFA, 1, 1))
        self.assert_refused("name", -1, lets_ring, EVEN, (FFA, 1, 2))

    def test_drawn_things(self):
        draw = Draw(242)
        seen = set()
        for _ in range(300):
            grammar = drawn_driven(draw, 1 + draw.below(3), 3 + draw.below(6))
            lot = oracle.lot_among(grammar, SEVEN[:300]) or [A]
            tree = draw.one_of(lot if draw.below(5) else SEVEN)
            node, inner = draw.below(5), draw.below(5)
            pieces = oracle.nodes(oracle.nested(tree))
            names = [oracle.names_of(grammar, oracle.nested(piece)) for piece in pieces]
            if not takes(grammar, tree):
                word = "tree"
            elif node >= len(tree):
                word = "node"
            elif not node < inner < node + len(pieces[node]):
                word = "inner"
            else:
                word = None if names[node] == names[inner] else "name"
            seen.add(word)
            if word is None:
                self.assert_same(lets_ring(grammar, (tree, node, inner)), min(names[node]))
            else:
                self.assert_refused(word, -1, lets_ring, grammar, (tree, node, inner))
        self.assertEqual(seen, {None, "tree", "node", "inner", "name"})


if __name__ == "__main__":
    unittest.main()
