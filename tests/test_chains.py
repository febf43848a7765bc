"""The checker of chains: [31]."""

import unittest

from stoodthere.chainchecker import lets_chain
from tests import oracle
from tests.checks import Checks
from tests.samples import A, B, BOLD, BOOKS, DEEP, FA, FB, FFA, G, SMALL_TREES, WRONG_NUMBERS, WRONG_SENTENCES
from tests.samples import WRONG_TREES, Draw, drawn_sentences

GIVEN = (A, FA, FB, G)
START = (("given", FA), ("given", A), ("given", FB), ("given", G))


class TestChains(Checks, unittest.TestCase):

    def test_example(self):
        chain = (("given", FA), ("given", A), ("put", 0, 1, 1, 0, 0))
        wanted = ((("f", 1), ("a", 0)), (("a", 0),), (("f", 1), ("f", 1), ("a", 0)))
        self.assert_same(lets_chain(BOLD, (A, FA), chain), wanted)

    def test_given_lines(self):
        self.assert_same(lets_chain(DEEP, GIVEN, START), (FA, A, FB, G))
        self.assert_same(lets_chain(DEEP, GIVEN, START[:1] * 3), (FA,) * 3)
        self.assert_same(lets_chain(BOLD, (A,), (("given", A),)), (A,))

    def test_put_lines(self):
        # f(a) and f(b): a and b may be exchanged.
        chain = START + (("put", 3, 2, 0, 1, 2), ("put", 4, 3, 2, 1, 0), ("put", 0, 0, 0, 0, 0))
        told = lets_chain(BOLD, GIVEN, chain)
        self.assert_same(told[4:], (oracle.with_other(G, 2, B), (("g", 2), ("f", 1), ("b", 0), ("a", 0)), FA))

    def test_later_lines_are_built_on(self):
        chain = (("given", A), ("given", FA)) + tuple(("put", k, k, 0, 0, 1) for k in range(1, 8))
        told = lets_chain(BOLD, (A, FA), chain)
        self.assert_same(told, tuple((("f", 1),) * k + A for k in range(9)))

    def test_long_chain(self):
        chain = START + (("put", 0, 1, 0, 1, 2), ("put", 2, 1, 2, 1, 0)) * 300
        told = lets_chain(BOLD, GIVEN, chain)
        self.assert_same(told[4:], (FB, FA) * 300)

    def test_shape(self):
        for thing in (None, True, 0, "", "given", (), [], [("given", A)], 10 ** 59):
            self.assert_refused("shape", -1, lets_chain, BOLD, GIVEN, thing)
        lines = [None, True, 0, "given", (), [], ["given", A], ("given",), ("given", A, A), ("put", 0, 0, 0, 0),
                 ("put", 0, 0, 0, 0, 0, 0), ["put", 0, 0, 0, 0, 0], ("take", A), ("given", 0, 0, 0, 0, 0), (A, "given"),
                 ("put", A), ("", 0, 0, 0, 0, 0), (None, A), (("given",), A), ("Given", A), ("puts", 0, 0, 0, 0, 0), A]
        for number in WRONG_NUMBERS:
            for at in range(1, 6):
                line = ["put", 0, 0, 0, 0, 0]
                line[at] = number
                lines.append(tuple(line))
        for line in lines:
            self.assert_refused("shape", 0, lets_chain, BOLD, GIVEN, (line,))
            self.assert_refused("shape", 4, lets_chain, BOLD, GIVEN, START + (line, None))

    def test_given(self):
        for tree in WRONG_TREES + (B, FFA, (("a", False),), [("a", 0)]):
            self.assert_refused("given", 0, lets_chain, BOLD, GIVEN, (("given", tree),))
            self.assert_refused("given", 4, lets_chain, BOLD, GIVEN, START + (("given", tree), None))
        self.assert_refused("given", 0, lets_chain, BOLD, (), (("given", A),))

    def test_line(self):
        for at in (1, 3, 5):
            for number in (4, 5, 10 ** 59):
                line = ["put", 0, 0, 0, 0, 0]
                line[at] = number
                self.assert_refused("line", 4, lets_chain, BOLD, GIVEN, START + (tuple(line), None))
        self.assert_refused("line", 0, lets_chain, BOLD, GIVEN, (("put", 0, 0, 0, 0, 0),))
        self.assert_refused("line", 1, lets_chain, BOLD, GIVEN, START[:1] + (("put", 0, 0, 0, 0, 1),) + START)

    def test_node(self):
        for line in (("put", 0, 2, 0, 0, 0), ("put", 1, 1, 1, 0, 1), ("put", 0, 0, 0, 2, 0), ("put", 3, 4, 3, 3, 3),
                     ("put", 3, 0, 3, 4, 3), ("put", 0, 10 ** 59, 0, 0, 0), ("put", 0, 0, 0, 10 ** 59, 0)):
            self.assert_refused("node", 4, lets_chain, BOLD, GIVEN, START + (line, None))
        # Node 1 is one of f(a), the tree of base, though not one of a, the tree of one.
        self.assert_same(lets_chain(BOLD, GIVEN, START + (("put", 0, 1, 1, 0, 1),))[4], FA)

    def test_place(self):
        for line in (("put", 0, 1, 0, 1, 1), ("put", 0, 1, 0, 1, 3), ("put", 3, 3, 3, 3, 0), ("put", 3, 2, 3, 2, 0)):
            self.assert_refused("place", 4, lets_chain, BOLD, GIVEN, START + (line, None))
        other = (("g", 2), ("f", 1), ("a", 0), ("a", 0))
        self.assert_refused("place", 2, lets_chain, BOLD, (G, other), (
            ("given", G), ("given", other), ("put", 0, 2, 0, 2, 1)))
        self.assert_same(lets_chain(BOLD, (G, other), (("given", G), ("given", other), ("put", 0, 3, 0, 3, 1)))[2], other)

    def test_piece(self):
        for line in (("put", 0, 0, 1, 0, 0), ("put", 0, 0, 0, 1, 2), ("put", 2, 1, 0, 1, 2), ("put", 3, 3, 1, 0, 2)):
            self.assert_refused("piece", 4, lets_chain, BOLD, GIVEN, START + (line, None))

    def test_kind(self):
        for line in (("put", 0, 1, 1, 0, 0), ("put", 1, 0, 1, 0, 3), ("put", 0, 0, 0, 0, 1)):
            self.assert_refused("kind", 4, lets_chain, DEEP, GIVEN, START + (line, None))
            self.assertEqual(len(lets_chain(BOLD, GIVEN, START + (line,))), 5)
        groups = (("groups", (("a", 1),), 0),)
        self.assert_refused("kind", 4, lets_chain, groups, GIVEN, START + (("put", 0, 1, 0, 1, 2),))
        deeper = (("depth", 2),)
        self.assert_refused("kind", 4, lets_chain, deeper, GIVEN, START + (("put", 0, 0, 0, 0, 2),))
        self.assert_same(lets_chain(DEEP, GIVEN, START + (("put", 0, 0, 0, 0, 2),))[4], FB)

    def test_the_first_fault_is_told(self):
        self.assert_refused("shape", 4, lets_chain, DEEP, GIVEN, START + (("put", 9, 9, 9, 9, -1),))
        self.assert_refused("line", 4, lets_chain, DEEP, GIVEN, START + (("put", 0, 9, 0, 9, 4),))
        self.assert_refused("line", 4, lets_chain, DEEP, GIVEN, START + (("put", 0, 9, 4, 9, 0),))
        self.assert_refused("node", 4, lets_chain, DEEP, GIVEN, START + (("put", 0, 9, 0, 1, 1),))
        self.assert_refused("node", 4, lets_chain, DEEP, GIVEN, START + (("put", 0, 0, 1, 1, 0),))
        self.assert_refused("place", 4, lets_chain, DEEP, GIVEN, START + (("put", 0, 0, 0, 1, 1),))
        self.assert_refused("piece", 4, lets_chain, DEEP, GIVEN, START + (("put", 3, 3, 0, 0, 1),))
        self.assert_refused("given", 0, lets_chain, DEEP, GIVEN, (("given", B), ("put", 9, 0, 0, 0, 0)))
        self.assert_refused("kind", 4, lets_chain, DEEP, GIVEN, START + (("put", 0, 0, 0, 0, 1), ("given", B)))

    def test_drawn_lines(self):
        draw = Draw(60)
        for book in BOOKS:
            for _ in range(25):
                self.check_drawn_chain(draw, book)

    def check_drawn_chain(self, draw, book):
        given = drawn_sentences(draw, 4, SMALL_TREES[:40])
        chain = tuple(("given", tree) for tree in given)
        trees = given
        for _ in range(12):
            node, place = draw.below(5), draw.below(5)
            base, one, two = (draw.below(len(trees)) for _ in range(3))
            if draw.below(2):
                fitting = [(b, n) for b, tree in enumerate(trees) for n, piece in enumerate(oracle.nodes(oracle.nested(tree)))
                           if place < len(trees[one]) and piece == oracle.nodes(oracle.nested(trees[one]))[place]]
                base, node = draw.one_of(fitting) if fitting else (base, node)
            line = ("put", base, node, one, place, two)
            word, fourth = self.by_hand(book, trees, line)
            if word is not None:
                self.assert_refused(word, len(chain), lets_chain, book, given, chain + (line,))
            elif len(fourth) < 12:
                chain += (line,)
                trees += (fourth,)
                self.assert_same(lets_chain(book, given, chain), trees)

    def by_hand(self, book, trees, line):
        _, base, node, one, place, two = line
        base, one, two = trees[base], trees[one], trees[two]
        if node >= len(base) or place >= len(one):
            return "node", None
        if place >= len(two) or oracle.place(one, place) != oracle.place(two, place):
            return "place", None
        pieces = [oracle.nodes(oracle.nested(tree)) for tree in (base, one, two)]
        if pieces[0][node] != pieces[1][place]:
            return "piece", None
        if oracle.kind(book, pieces[1][place]) != oracle.kind(book, pieces[2][place]):
            return "kind", None
        return None, oracle.with_other(base, node, pieces[2][place])

    def test_wrong_given(self):
        for thing in WRONG_SENTENCES:
            self.assert_not_usable("given", lets_chain, BOLD, thing, (("given", A),))
            self.assert_not_usable("given", lets_chain, BOLD, thing, ())


if __name__ == "__main__":
    unittest.main()
