"""What comes if two pieces are called joined: [45] and [46]."""

import unittest

from stoodthere.calledjoins import called_tree, classes_with
from stoodthere.plainclasses import plain_classes
from tests import oracle
from tests.checks import Checks
from tests.samples import A, B, BOLD, BOOKS, BOTH, DEEP, FA, FB, FFA, G, SMALL_TREES, WRONG_NUMBERS, WRONG_SENTENCES
from tests.samples import WRONG_TREES, Draw, drawn_sentences


def called_by_hand(book, sentences, tree, other):
    """The classes with the two joined first, all further joins being made by the definition."""
    classes = oracle.Classes(book, sentences)
    if tree != other:
        one, two = classes.class_of(tree), classes.class_of(other)
        classes.classes = [row for row in classes.classes if row not in (one, two)] + [one | two]
    possible = classes.possible()
    while possible:
        classes.make(possible[0])
        possible = classes.possible()
    return classes.told()


class TestClassesWith(Checks, unittest.TestCase):

    def test_examples(self):
        self.assert_same(classes_with(BOLD, (FA,), A, FA), ((A, FA),))
        self.assert_not_usable("other", classes_with, DEEP, (FA,), A, FA)

    def test_one_piece_with_itself(self):
        for book in BOOKS:
            for sentences in ((G,), (A, FA), (FA, FB, BOTH)):
                for piece in oracle.all_pieces(sentences):
                    self.assert_same(classes_with(book, sentences, piece, piece), plain_classes(book, sentences))

    def test_further_joins_are_made(self):
        self.assert_same(classes_with(BOLD, (G,), A, B), ((A, B), (FA,), (G,)))
        self.assert_same(classes_with(BOLD, (BOTH,), A, B), ((A, B), (FA, FB), (BOTH,)))
        self.assert_same(classes_with(BOLD, (BOTH,), FA, FB), ((A, B), (FA, FB), (BOTH,)))
        self.assert_same(classes_with(DEEP, (BOTH,), FA, FB), ((A,), (B,), (FA, FB), (BOTH,)))
        self.assert_same(classes_with(BOLD, (FFA,), FFA, A), ((A, FFA), (FA,)))
        self.assert_same(classes_with(BOLD, (FFA,), FA, A), ((A, FA, FFA),))

    def test_pieces_that_are_joined_anyway(self):
        self.assert_same(classes_with(BOLD, (FA, FB), B, A), ((A, B), (FA, FB)))

    def test_drawn_sentences(self):
        draw = Draw(160)
        for book in BOOKS:
            for _ in range(15):
                sentences = drawn_sentences(draw, 1 + draw.below(4), SMALL_TREES[:80])
                pieces = oracle.all_pieces(sentences)
                one, two = draw.one_of(pieces), draw.one_of(pieces)
                if oracle.kind(book, one) == oracle.kind(book, two):
                    self.assert_same(classes_with(book, sentences, one, two), called_by_hand(book, sentences, one, two))
                else:
                    self.assert_not_usable("other", classes_with, book, sentences, one, two)

    def test_wrong_parameters(self):
        for thing in WRONG_SENTENCES:
            self.assert_not_usable("sentences", classes_with, BOLD, thing, A, FA)
            self.assert_not_usable("sentences", classes_with, BOLD, thing, None, None)
        for thing in WRONG_TREES + (B, FFA):
            self.assert_not_usable("tree", classes_with, BOLD, (FA,), thing, FA)
            self.assert_not_usable("tree", classes_with, BOLD, (FA,), thing, None)
            self.assert_not_usable("other", classes_with, BOLD, (FA,), A, thing)
        self.assert_not_usable("tree", classes_with, BOLD, (), A, A)


class TestCalledTree(Checks, unittest.TestCase):

    def test_examples(self):
        self.assert_same(called_tree(BOLD, (FA,), FA, 1, FA), FFA)

    def test_nodes(self):
        self.assert_same(called_tree(BOLD, (G, FB), G, 0, FB), FB)
        self.assert_same(called_tree(BOLD, (G, FB), G, 1, A), (("g", 2),) + A + B)
        self.assert_same(called_tree(BOLD, (G, FB), G, 3, G), (("g", 2),) + FA + G)
        self.assert_same(called_tree(DEEP, (G, FB), G, 1, FB), (("g", 2),) + FB + B)
        self.assert_same(called_tree(DEEP, (G, FB), G, 2, A), G)

    def test_drawn_sentences(self):
        draw = Draw(161)
        for book in BOOKS:
            for _ in range(30):
                sentences = drawn_sentences(draw, 1 + draw.below(4), SMALL_TREES[:80])
                tree, other = draw.one_of(sentences), draw.one_of(oracle.all_pieces(sentences))
                node = draw.below(len(tree))
                piece = oracle.nodes(oracle.nested(tree))[node]
                if oracle.kind(book, piece) == oracle.kind(book, other):
                    wanted = oracle.with_other(tree, node, other)
                    self.assert_same(called_tree(book, sentences, tree, node, other), wanted)
                else:
                    self.assert_not_usable("other", called_tree, book, sentences, tree, node, other)

    def test_wrong_parameters(self):
        given = (FA, B)
        for thing in WRONG_SENTENCES:
            self.assert_not_usable("sentences", called_tree, BOLD, thing, FA, 1, FA)
            self.assert_not_usable("sentences", called_tree, BOLD, thing, None, None, None)
        # A piece that is no sentence is not as stated.
        for thing in WRONG_TREES + (A, FB):
            self.assert_not_usable("tree", called_tree, BOLD, given, thing, 0, FA)
            self.assert_not_usable("tree", called_tree, BOLD, given, thing, None, None)
        for thing in WRONG_NUMBERS + (2, 10 ** 59):
            self.assert_not_usable("node", called_tree, BOLD, given, FA, thing, FA)
            self.assert_not_usable("node", called_tree, BOLD, given, FA, thing, None)
        self.assert_not_usable("node", called_tree, BOLD, given, B, 1, FA)
        for thing in WRONG_TREES + (FB, FFA):
            self.assert_not_usable("other", called_tree, BOLD, given, FA, 1, thing)
        self.assert_not_usable("other", called_tree, DEEP, given, FA, 1, B)
        self.assert_not_usable("other", called_tree, DEEP, given, FA, 0, A)


if __name__ == "__main__":
    unittest.main()
