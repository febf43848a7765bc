"""Chains of exchanges as papers of the closure, and how long they may be: [48]."""

import unittest

from stoodthere.chainchecker import lets_chain
from stoodthere.chainpapers import chain_bound, chain_paper, joins_count
from stoodthere.joinlists import joins_of
from stoodthere.making import takes
from tests import oracle
from tests.checks import Checks
from tests.samples import A, B, BOLD, BOOKS, BOTH, DEEP, DEEPEST_TREE, DOT, FA, FB, FFA, G, SMALL_SYMBOLS, SMALL_TREES, WIDE
from tests.samples import WRONG_NUMBERS, WRONG_SENTENCES, WRONG_TREES, Draw, drawn_sentences, drawn_tree, trees_up_to

FIVE = trees_up_to(SMALL_SYMBOLS, 5)
SIX = trees_up_to(SMALL_SYMBOLS, 6)
FFB = (("f", 1),) + FB
GAB, GBA, GBB = (("g", 2),) + A + B, (("g", 2),) + B + A, (("g", 2),) + B + B


def tall(many, leaf):
    return (("f", 1),) * many + leaf


class TestChainPapers(Checks, unittest.TestCase):

    def check_chain(self, book, given, tree, chain):
        """All that [48] asks of a chain, each line read by its definition."""
        self.assertIs(type(chain), tuple)
        for line in chain:
            self.assertIs(type(line), tuple)
        trees = oracle.chain_trees(book, given, chain)
        self.assert_same(lets_chain(book, given, chain), tuple(trees))
        self.assert_same(trees[-1], tree)
        self.assertEqual(len(set(trees)), len(trees))
        longest = max(len(other) for other in given + (tree,))
        self.assertLessEqual(max(len(other) for other in trees), longest)
        self.assertLessEqual(len(chain), chain_bound(book, given, len(tree)))

    def test_examples(self):
        self.assert_same(chain_paper(BOLD, (A,), A), (("given", (("a", 0),)),))
        self.assert_same((joins_count(BOLD, (A, FA)), chain_bound(BOLD, (A, FA), 3)), (1, 27))

    def test_no_sentences_and_one_alone(self):
        for book in BOOKS:
            for tree in (A, FFA, G, WIDE):
                self.assert_same(chain_paper(book, (), tree), None)
                self.assert_same(chain_paper(book, (G,), tree), (("given", G),) if tree == G else None)

    def test_a_tree_that_is_given(self):
        """Bounds may be met by one line, whatever else the closure has."""
        for tree in (A, FA, FB):
            self.check_chain(BOLD, (A, FA, FB), tree, chain_paper(BOLD, (A, FA, FB), tree))
        self.assert_same(chain_paper(DEEP, (A, FA), FFA), None)

    def test_trees_longer_than_all_given_ones(self):
        for many in (2, 3, 10, 59):
            self.check_chain(BOLD, (A, FA), tall(many, A), chain_paper(BOLD, (A, FA), tall(many, A)))
            self.check_chain(BOLD, (A, FA, FB), tall(many, B), chain_paper(BOLD, (A, FA, FB), tall(many, B)))
        self.assert_same(chain_paper(BOLD, (A, FA), tall(59, B)), None)

    def test_trees_shorter_than_all_given_ones(self):
        given = (tall(5, A), tall(9, A))
        for many in range(60):
            chain = chain_paper(BOLD, given, tall(many, A))
            self.assertEqual(chain is not None, many % 4 == 1)
            if chain is not None:
                self.check_chain(BOLD, given, tall(many, A), chain)
        given = (tall(20, A), tall(19, A))
        self.check_chain(BOLD, given, A, chain_paper(BOLD, given, A))
        given = (DEEPEST_TREE, DEEPEST_TREE[1:], DEEPEST_TREE[5:])
        self.check_chain(BOLD, given, A, chain_paper(BOLD, given, A))

    def test_long_pieces_between_short_ones(self):
        """Each chain from x to z goes by pieces that are longer, where they must not make a tree too long."""
        c, long = (("c", 0),), (("h", 2),) + tall(4, A) + tall(3, B)
        # a goes with the long piece below g, that with c below k, c with b below m.
        given = tuple(((word, 1),) + tree for word, tree in (
            ("g", A), ("g", long), ("k", long), ("k", c), ("m", c), ("m", B), ("n", B), ("n", tall(2, DOT))))
        groups = (("groups", (("g", 1), ("k", 2), ("m", 3), ("n", 4)), 5),)
        joins, classes = oracle.saturated(groups, given)
        lot = [((word, 1),) + tree for word in "gkmn" for tree in (A, long, c, B, tall(2, DOT))]
        for tree in lot:
            self.assertTrue(classes.leads_to(tree))
            self.check_chain(groups, given, tree, chain_paper(groups, given, tree))

    def test_joins_of_all_three_sorts(self):
        given = (GAB, GBB, FFA, FFB, A, (("h", 1),) + GAB)
        tree = (("h", 1), ("g", 2)) + B + GAB
        self.check_chain(BOLD, given, tree, chain_paper(BOLD, given, tree))
        haa = (("h", 2),) + A + FA
        given = (A, B, haa, (("k", 1),) + haa, (("h", 2),) + B + FB)
        groups = (("groups", (("a", 1), ("b", 1)), 0), ("groups", (("h", 1), ("k", 2)), 3))
        tree = (("k", 1), ("h", 2)) + B + FA
        self.check_chain(groups, given, tree, chain_paper(groups, given, tree))

    def test_none_exactly_where_the_closure_lacks_the_tree(self):
        """Held against exchanges made again and again among trees of so many symbols."""
        draw = Draw(180)
        found = 0
        for book in BOOKS:
            for _ in range(4):
                given = drawn_sentences(draw, 2 + draw.below(4), FIVE[:50])
                closure = set(oracle.Lot(book, given).closed_to(5))
                for tree in draw.some_of(FIVE, 40) + draw.some_of(sorted(closure), 15):
                    chain = chain_paper(book, given, tree)
                    self.assertEqual(chain is not None, tree in closure)
                    if chain is not None:
                        found += tree not in given
                        self.check_chain(book, given, tree, chain)
        self.assertGreater(found, 100)

    def test_all_trees_of_the_closure_by_trees_no_longer_than_they(self):
        draw = Draw(181)
        for book in BOOKS[:2] + BOOKS[4:6] + BOOKS[8:10]:
            for _ in range(3):
                given = drawn_sentences(draw, 2 + draw.below(3), FIVE[:20])
                for tree in draw.some_of(oracle.Lot(book, given).closed_to(5), 60):
                    self.check_chain(book, given, tree, chain_paper(book, given, tree))

    def test_many_pieces(self):
        draw = Draw(182)
        for seed in range(12):
            book = BOOKS[seed % len(BOOKS)]
            given = ()
            for _ in range(40):
                tree = drawn_tree(draw, (6, 12, 40)[seed % 3])
                if tree not in given and len(tree) <= 60 and len(oracle.all_pieces(given + (tree,))) <= 150:
                    given += (tree,)
            grammar = oracle.quick_grammar(joins_of(book, given), book, given)
            for tree in [oracle.drawn_from(grammar, draw, most) for most in (5, 20, 60)]:
                if tree is not None:
                    self.assert_same(takes(grammar, tree), True)
                    self.check_chain(book, given, tree, chain_paper(book, given, tree))

    def test_wide_trees(self):
        given = (WIDE, BOTH, A, FA, B)
        for tree in (WIDE, (("w", 4),) + B + FA + G + A, (("w", 4),) + WIDE + WIDE + G + FA):
            chain = chain_paper(BOLD, given, tree)
            self.assertEqual(chain is not None, oracle.saturated(BOLD, given)[1].leads_to(tree))
            if chain is not None:
                self.check_chain(BOLD, given, tree, chain)

    def test_wrong_parameters(self):
        for thing in WRONG_SENTENCES:
            self.assert_not_usable("given", chain_paper, BOLD, thing, A)
            self.assert_not_usable("given", chain_paper, BOLD, thing, None)
        for thing in WRONG_TREES:
            self.assert_not_usable("tree", chain_paper, BOLD, (A, FA), thing)
            self.assert_not_usable("tree", chain_paper, BOLD, (), thing)


class TestBounds(Checks, unittest.TestCase):

    def test_joins_count(self):
        draw = Draw(183)
        for book in BOOKS:
            self.assert_same(joins_count(book, ()), 0)
            self.assert_same(joins_count(book, (G,)), 0)
            for _ in range(10):
                given = drawn_sentences(draw, 1 + draw.below(4), SMALL_TREES[:80])
                joins, _ = oracle.saturated(book, given, draw)
                self.assert_same(joins_count(book, given), len(joins))
                self.assert_same(joins_count(book, given), len(joins_of(book, given)))

    def test_chain_bound(self):
        self.assert_same(chain_bound(BOLD, (), 0), 1)
        self.assert_same(chain_bound(BOLD, (), 7), 8)
        # One sentence, no joins, four rules.
        self.assert_same(chain_bound(BOLD, (G,), 5), 1 + 0 + 21 + 5)
        # Two sentences, two joins, three rules.
        self.assert_same(chain_bound(BOLD, (FA, FB), 2), 2 + 4 + 16 * 3 + 2)
        # Three sentences, three joins, three rules.
        self.assert_same(chain_bound(BOLD, (FA, FB, A), 0), 3 + 12 + 16 * 4)
        many = 10 ** 199 + 7
        self.assert_same(chain_bound(BOLD, (FA, FB), many), 54 - 2 + many + 2)

    def test_drawn_sentences(self):
        draw = Draw(184)
        for book in BOOKS:
            for _ in range(5):
                given = drawn_sentences(draw, 1 + draw.below(4), SMALL_TREES[:40])
                joins, _ = oracle.saturated(book, given)
                rules = len(oracle.found_grammar(book, given, SIX)[2])
                j, many = len(joins), draw.below(100)
                wanted = len(given) + 2 * j * (j - 1) + (5 * rules + 1) * (j + 1) + many
                self.assert_same(chain_bound(book, given, many), wanted)

    def test_wrong_parameters(self):
        for thing in WRONG_SENTENCES:
            self.assert_not_usable("given", joins_count, BOLD, thing)
            self.assert_not_usable("given", chain_bound, BOLD, thing, 0)
            self.assert_not_usable("given", chain_bound, BOLD, thing, None)
        for thing in WRONG_NUMBERS:
            self.assert_not_usable("many", chain_bound, BOLD, (A, FA), thing)
            self.assert_not_usable("many", chain_bound, BOLD, (), thing)


if __name__ == "__main__":
    unittest.main()
