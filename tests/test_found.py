"""The found grammar of sentences, and maps between lots: [53] and [54]."""

import unittest

from stoodthere.fairness import is_fair, is_plain
from stoodthere.found import grammar_of
from stoodthere.maps import within_map
from tests import oracle
from tests.checks import Checks
from tests.samples import A, B, BOLD, BOOKS, BOTH, DEEP, EMPTY, EVEN, FA, FAIR_DEEP, FB, FFA, FOUND, G, LONG, ODD, ONE
from tests.samples import SMALL_SYMBOLS, SMALL_TREES, SOME_TREES, WIDE, WRONG_GRAMMARS, WRONG_SENTENCES, Draw
from tests.samples import drawn_driven, drawn_sentences, trees_up_to

SIX = trees_up_to(SMALL_SYMBOLS, 6)
FIVE = trees_up_to(SMALL_SYMBOLS, 5)
NO_MAPS = ((DEEP, LONG), (BOLD, EVEN[:1] + ((0, 1),) + EVEN[2:]), (BOLD, (1, (0,), ())),
           (BOLD, (2, (0,), ((0, "a", ()), (0, "b", ()), (1, "b", ())))), (BOLD, (10 ** 59, (), ())))


class TestFound(Checks, unittest.TestCase):

    def test_examples(self):
        self.assert_same(grammar_of(BOLD, (A, FA)), LONG)
        self.assert_same(grammar_of(BOLD, (FA, FB)), FOUND)

    def test_no_sentences(self):
        for book in BOOKS:
            self.assert_same(grammar_of(book, ()), EMPTY)

    def test_one_sentence_alone(self):
        """Each piece has a name of its own, and these are numbered in the order of the pieces."""
        for book in BOOKS:
            for tree in SOME_TREES:
                pieces = oracle.all_pieces([tree])
                rules = [(k, piece[0][0], tuple(pieces.index(oracle.flat(part)) for part in oracle.nested(piece)[1]))
                         for k, piece in enumerate(pieces)]
                self.assert_same(grammar_of(book, (tree,)), (len(pieces), (len(pieces) - 1,), tuple(sorted(rules))))

    def test_several_starts(self):
        self.assert_same(grammar_of(DEEP, (A, FA)), (2, (0, 1), ((0, "a", ()), (1, "f", (0,)))))
        self.assert_same(grammar_of(DEEP, (A, FA, FFA)), FAIR_DEEP)
        self.assert_same(grammar_of(DEEP, (B, A)), (2, (0, 1), ((0, "a", ()), (1, "b", ()))))

    def test_the_least_tree_of_a_name_need_not_be_a_piece(self):
        """The class of g(f(a),b) makes g(a,b), too: it is numbered by this one, ahead of h(h(a)), not behind it."""
        hha = (("h", 1), ("h", 1)) + A
        given = (A, FA, (("k", 2),) + G + hha)
        symbols = (("a", 0), ("b", 0), ("f", 1), ("g", 2), ("h", 1), ("k", 2))
        told = grammar_of(BOLD, given)
        self.assert_same(told, oracle.found_grammar(BOLD, given, trees_up_to(symbols, 4)))
        rules = ((0, "a", ()), (0, "f", (0,)), (0, "k", (3, 4)), (1, "b", ()), (2, "h", (0,)), (3, "g", (0, 1)),
                 (4, "h", (2,)))
        self.assert_same(told, (5, (0,), rules))

    def test_drawn_sentences(self):
        draw = Draw(230)
        for book in BOOKS:
            for _ in range(15):
                sentences = drawn_sentences(draw, draw.below(6), SMALL_TREES[:100])
                told = grammar_of(book, sentences)
                self.assert_same(told, oracle.found_grammar(book, sentences, SIX))
                self.assert_same((is_plain(told), is_fair(book, told)), (True, True))

    def test_the_lot_is_the_closure(self):
        """Held against exchanges made again and again among trees of so many symbols."""
        draw = Draw(231)
        for book in BOOKS:
            for _ in range(3):
                sentences = drawn_sentences(draw, draw.below(5), FIVE[:90])
                closure = oracle.Lot(book, sentences).closed_to(5)
                self.assert_same(tuple(oracle.lot_among(grammar_of(book, sentences), FIVE)), closure)

    def test_wide_trees(self):
        for book in BOOKS:
            sentences = (WIDE, BOTH, G, FFA, B)
            told = grammar_of(book, sentences)
            for tree in sentences:
                self.assertTrue(oracle.lot_among(told, [tree]))
            self.assert_same((is_plain(told), is_fair(book, told)), (True, True))

    def test_wrong_sentences(self):
        for thing in WRONG_SENTENCES:
            self.assert_not_usable("sentences", grammar_of, BOLD, thing)


class TestMaps(Checks, unittest.TestCase):

    def test_examples(self):
        self.assert_same((within_map(BOLD, ONE, LONG), within_map(BOLD, LONG, ONE)), ((0,), None))

    def test_the_empty_grammar(self):
        for book in BOOKS:
            self.assert_same(within_map(book, EMPTY, EMPTY), ())
            self.assert_same(within_map(book, EMPTY, ONE), ())
            self.assert_same(within_map(book, ONE, EMPTY), None)

    def test_one_grammar_with_itself(self):
        for book, grammar in ((BOLD, LONG), (BOLD, FOUND), (DEEP, FAIR_DEEP), (BOLD, EVEN), (BOLD, ODD)):
            self.assert_same(within_map(book, grammar, grammar), tuple(range(grammar[0])))

    def test_names_that_are_numbered_otherwise(self):
        other = (2, (0,), ((0, "f", (1,)), (1, "a", ()), (1, "b", ())))
        self.assert_same((within_map(BOLD, FOUND, other), within_map(BOLD, other, FOUND)), ((1, 0), (1, 0)))

    def test_lots_within_others(self):
        self.assert_same((within_map(BOLD, EVEN, LONG), within_map(BOLD, ODD, LONG)), ((0, 0), (0, 0)))
        self.assert_same((within_map(BOLD, LONG, EVEN), within_map(BOLD, EVEN, ODD)), (None, None))
        two = (2, (0, 1), ((0, "a", ()), (1, "f", (0,))))
        self.assert_same((within_map(DEEP, two, FAIR_DEEP), within_map(DEEP, FAIR_DEEP, two)), ((0, 1), None))

    def test_rules_without_starts_are_not_enough(self):
        grammar = (2, (1,), ((0, "a", ()), (0, "f", (1,)), (1, "b", ()), (1, "f", (0,))))
        other = (2, (0,), grammar[2])
        self.assert_same((within_map(BOLD, grammar, other), within_map(BOLD, other, grammar)), (None, None))

    def test_drawn_grammars(self):
        """None exactly where some tree of the lot, among those of few symbols, is not in the other one."""
        draw = Draw(232)
        told = {True: 0, False: 0}
        for book in BOOKS:
            grammars = [grammar_of(book, drawn_sentences(draw, 1 + draw.below(4), FIVE[:12])) for _ in range(8)]
            for fair in grammars:
                for other in grammars:
                    names = within_map(book, fair, other)
                    lies = set(oracle.lot_among(fair, SIX)) <= set(oracle.lot_among(other, SIX))
                    told[lies] += 1
                    if names is None:
                        self.assertFalse(lies)
                        continue
                    self.assertTrue(lies)
                    self.assertEqual(len(names), fair[0])
                    self.assertLessEqual({names[start] for start in fair[1]}, set(other[1]))
                    rules = {(names[result], word, tuple(names[part] for part in parts)) for result, word, parts in fair[2]}
                    self.assertLessEqual(rules, set(other[2]))
        self.assertGreater(told[True], 110)
        self.assertGreater(told[False], 200)

    def test_wrong_parameters(self):
        wrong = [(book, grammar) for book in (BOLD, DEEP) for grammar in WRONG_GRAMMARS] + list(NO_MAPS)
        for book, thing in wrong:
            good = ONE if book == BOLD else FAIR_DEEP
            self.assert_not_usable("fair", within_map, book, thing, good)
            # Of two that are wrong the first one is told.
            self.assert_not_usable("fair", within_map, book, thing, thing)
            self.assert_not_usable("fair", within_map, book, thing, None)
            self.assert_not_usable("other", within_map, book, good, thing)
            self.assert_not_usable("other", within_map, book, EMPTY, thing)

    def test_drawn_wrong_parameters(self):
        draw = Draw(233)
        for _ in range(200):
            book = draw.one_of(BOOKS)
            grammar = drawn_driven(draw, 1 + draw.below(3), 1 + draw.below(6))
            breach = oracle.breach(book, grammar, SIX)
            if breach not in (None, "too long"):
                self.assert_not_usable("fair", within_map, book, grammar, EMPTY)
                self.assert_not_usable("other", within_map, book, EMPTY, grammar)


if __name__ == "__main__":
    unittest.main()
