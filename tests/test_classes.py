"""The classes of sentences and their joins: [40] and [41]."""

import unittest

from stoodthere.joinchecker import lets_joins
from stoodthere.joinlists import joins_of
from stoodthere.plainclasses import plain_classes
from tests import oracle
from tests.checks import Checks
from tests.samples import A, B, BOLD, BOOKS, BOTH, DEEP, DEEPEST_TREE, FA, FB, FFA, G, SMALL_TREES, SOME_TREES, WIDE
from tests.samples import WRONG_SENTENCES, Draw, drawn_sentences, drawn_tree

FFB = (("f", 1),) + FB
GAB, GBA, GBB = (("g", 2),) + A + B, (("g", 2),) + B + A, (("g", 2),) + B + B


def many_sentences(seed, most_symbols):
    """Sentences with nearly as many pieces as there may be."""
    draw = Draw(seed)
    found = ()
    for _ in range(200):
        tree = drawn_tree(draw, most_symbols)
        more = found + (tree,)
        if tree not in found and len(tree) <= 60 and len(more) <= 60 and len(oracle.all_pieces(more)) <= 300:
            found = more
    return found


class TestClasses(Checks, unittest.TestCase):

    def test_examples(self):
        self.assert_same(plain_classes(BOLD, (FA, FB)), ((A, B), (FA, FB)))
        self.assertEqual(len(joins_of(BOLD, (FA, FB))), 2)

    def test_no_sentences(self):
        for book in BOOKS:
            self.assert_same((plain_classes(book, ()), joins_of(book, ())), ((), ()))

    def test_one_sentence_alone(self):
        for book in BOOKS:
            for tree in SOME_TREES:
                self.assert_same(plain_classes(book, (tree,)), tuple((piece,) for piece in oracle.all_pieces([tree])))
                self.assert_same(joins_of(book, (tree,)), ())

    def test_roots(self):
        self.assert_same(plain_classes(BOLD, (A, B)), ((A, B),))
        self.assert_same(plain_classes(DEEP, (A, B)), ((A,), (B,)))
        self.assert_same(plain_classes(BOLD, (A, FA)), ((A, FA),))
        self.assert_same(plain_classes(DEEP, (A, FA)), ((A,), (FA,)))

    def test_ups(self):
        self.assert_same(plain_classes(BOLD, (A, B, G, GBB)), ((A, B, FA, GBB, G),))
        self.assert_same(plain_classes(BOLD, (A, B, BOTH)), ((A, B, BOTH), (FA, FB)))
        groups = (("groups", (("a", 1), ("b", 1)), 0), ("groups", (("g", 1), ("h", 2)), 3))
        haa = (("h", 2),) + A + FA
        hab = (("h", 2),) + B + FB
        self.assert_same(plain_classes(groups, (A, B, haa, hab)), ((A, B), (FA, FB), (haa, hab)))

    def test_downs(self):
        self.assert_same(plain_classes(BOLD, (FFA, FFB)), ((A, B), (FA, FB), (FFA, FFB)))
        self.assert_same(plain_classes(BOLD, (GAB, GBB)), ((A, B), (GAB, GBB)))
        # Two parts differ: nothing is told of either.
        self.assert_same(plain_classes(BOLD, (GAB, GBA)), ((A,), (B,), (GAB, GBA)))
        self.assert_same(plain_classes(BOLD, (GAB, GBA, GBB)), ((A, B), (GAB, GBA, GBB)))

    def test_downs_ask_one_kind(self):
        two = (FFA, (("f", 1),) + B)
        self.assert_same(plain_classes(DEEP, two), ((A,), (B,), (FA,), (FB, FFA)))
        self.assert_same(plain_classes(BOLD, two), ((A,), (B, FA), (FB, FFA)))

    def test_joins_that_bring_further_ones(self):
        given = (A, FA, FFB)
        self.assert_same(plain_classes(BOLD, given), ((A, B, FA, FB, FFB),))
        groups = (("groups", (("f", 1),), 0),)
        self.assert_same(plain_classes(groups, given), ((A,), (B,), (FA, FFB), (FB,)))
        self.assert_same(plain_classes(groups, given + (FB,)), ((A, B), (FA, FB, FFB)))

    def test_long_ways_down_and_up(self):
        deep = (("f", 1),) * 58
        self.assert_same(plain_classes(BOLD, (deep + A, deep + B))[0], (A, B))
        self.assertEqual(len(joins_of(BOLD, (deep + A, deep + B))), 59)
        self.assertEqual(len(joins_of(BOLD, (A, B, (("g", 2),) + DEEPEST_TREE[2:] + A))), 2)
        left = (("g", 2),) + deep[:29] + A + deep[:28] + B
        right = (("g", 2),) + deep[:29] + B + deep[:28] + B
        self.assert_same(plain_classes(BOLD, (left, right))[0], (A, B))
        self.assertEqual(len(plain_classes(BOLD, (left, right))), 31)

    def test_held_against_plain_joining(self):
        draw = Draw(130)
        for book in BOOKS:
            for _ in range(20):
                sentences = drawn_sentences(draw, draw.below(6), SMALL_TREES[:150])
                _, classes = oracle.saturated(book, sentences, draw)
                self.assert_same(plain_classes(book, sentences), classes.told())
                joins = joins_of(book, sentences)
                self.assert_same(lets_joins(book, sentences, joins), classes.told())
                self.assertEqual(len(joins), len(classes.pieces) - len(classes.classes))

    def test_many_pieces(self):
        for seed, most in ((131, 8), (132, 25), (133, 60)):
            sentences = many_sentences(seed, most)
            for book in BOOKS:
                joins = joins_of(book, sentences)
                classes = plain_classes(book, sentences)
                self.assert_same(lets_joins(book, sentences, joins), classes)
                self.check_no_further_joins(book, sentences, classes)

    def check_no_further_joins(self, book, sentences, classes):
        """Nothing that [8] lets be joined is left apart: told with numbers for classes, and kinds by the oracle."""
        number = {piece: k for k, row in enumerate(classes) for piece in row}
        kinds = {piece: oracle.kind(book, piece) for piece in number}
        rows = {piece: [oracle.flat(child) for child in oracle.nested(piece)[1]] for piece in number}
        seen = {}
        for tree in sentences:
            self.assertEqual(seen.setdefault(("root", kinds[tree]), number[tree]), number[tree])
        for piece, parts in rows.items():
            told = [number[part] for part in parts]
            self.assertEqual(seen.setdefault(("up", piece[0], tuple(told)), number[piece]), number[piece])
            for k, part in enumerate(parts):
                key = ("down", piece[0], number[piece], k, tuple(told[:k] + told[k + 1:]), kinds[part])
                self.assertEqual(seen.setdefault(key, number[part]), number[part])

    def test_other_trees(self):
        for book in BOOKS:
            sentences = (WIDE, BOTH, G, FFA, B)
            self.assert_same(plain_classes(book, sentences), oracle.saturated(book, sentences)[1].told())

    def test_wrong_sentences(self):
        for thing in WRONG_SENTENCES:
            self.assert_not_usable("sentences", plain_classes, BOLD, thing)
            self.assert_not_usable("sentences", joins_of, BOLD, thing)


if __name__ == "__main__":
    unittest.main()
