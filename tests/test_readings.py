"""Trees of a lot by their leaves: [91] and [92]."""

import unittest

from stoodthere.readcounts import reading_count, reading_total
from stoodthere.readings import least_reading
from tests import oracle
from tests.checks import Checks
from tests.samples import A, B, DOT, EMPTY, EVEN, FA, FOUND, LONG, ODD, ONE, SMALL_SYMBOLS, WRONG_NUMBERS, Draw
from tests.samples import drawn_driven, trees_up_to

TWO = (1, (0,), ((0, "a", ()), (0, "b", ()), (0, "g", (0, 0))))
GAB = (("g", 2), ("a", 0), ("b", 0))
SILENT = (1, (0,), ((0, ".", ()), (0, "f", (0,))))
QUIET = (2, (1,), ((0, ".", ()), (0, "a", ()), (1, "g", (0, 0))))
NOTHING = (EMPTY, (5, (), ()), (1, (0,), ()), (1, (), ((0, "a", ()),)), (2, (0, 1), ((0, "f", (1,)),)))
BESIDE = (4, (1,), ((0, "a", ()), (0, "f", (0,)), (1, "b", ()), (1, "g", (2, 3)), (2, "f", (2,)), (3, "c", ())))
SYMBOLS = SMALL_SYMBOLS + ((".", 0), ("h", 3))
SEVEN = trees_up_to((("a", 0), ("b", 0), (".", 0), ("g", 2), ("f", 1)), 6)
WRONG_WORDS = (None, True, 0, "", "a", "ab", [], ["a"], ("a", None), ("a", ""), (".",), ("a", "."), ("A",), ("a b",),
               ("a" * 17,), ("1",), ("?",), (("a", 0),), (("a",),), ("a", 1), ("a", True), ("-a",), ("a",) * 3 + ("..",))


def leaves_of(tree):
    return oracle.leaves(oracle.nested(tree))


class TestReadings(Checks, unittest.TestCase):

    def test_examples(self):
        self.assert_same((least_reading(TWO, ("a", "b")), least_reading(TWO, ())), (GAB, None))
        self.assert_same(least_reading((1, (0,), ((0, ".", ()), (0, "f", (0,)))), ()), ((".", 0),))
        self.assert_same((reading_count(TWO, ("a", "b", "a"), 5), reading_total(TWO, ("a", "b", "a"))), (2, 2))
        self.assert_same((reading_total(LONG, ("a",)), reading_total(LONG, ("b",))), (None, 0))

    def test_edges(self):
        for grammar in NOTHING:
            for words in ((), ("a",), ("a",) * 8):
                told = (least_reading(grammar, words), reading_count(grammar, words, 60), reading_total(grammar, words))
                self.assert_same(told, (None, 0, 0))
        self.assert_same((least_reading(BESIDE, ("b",)), reading_total(BESIDE, ("b",)), reading_total(BESIDE, ("a",))), (B, 1, 0))
        self.assert_same((least_reading(ODD, ("a",)), least_reading(FOUND, ("b",))), (FA, (("f", 1), ("b", 0))))
        self.assert_same([reading_count(EVEN, ("a",), nodes) for nodes in (0, 1, 2, 3, 59, 60)], [0, 1, 0, 1, 1, 0])

    def test_no_words(self):
        self.assert_same((least_reading(SILENT, ()), reading_total(SILENT, ()), least_reading(SILENT, ("a",))), (DOT, None, None))
        self.assert_same([reading_count(SILENT, (), nodes) for nodes in (0, 1, 2, 60)], [0, 1, 1, 1])
        self.assert_same((least_reading(QUIET, ()), reading_total(QUIET, ())), ((("g", 2),) + DOT + DOT, 1))
        self.assert_same((reading_total(LONG, ()), reading_count(LONG, (), 3), least_reading(LONG, ())), (0, 0, None))

    def test_silent_words(self):
        self.assert_same((least_reading(QUIET, ("a",)), reading_total(QUIET, ("a",))), ((("g", 2),) + DOT + A, 2))
        self.assert_same((least_reading(QUIET, ("a", "a")), reading_total(QUIET, ("a", "a", "a"))), ((("g", 2),) + A + A, 0))
        # With silent pieces and a ring there are endlessly many; without the ring there are not.
        ring = (1, (0,), ((0, ".", ()), (0, "a", ()), (0, "g", (0, 0))))
        self.assert_same((reading_total(ring, ()), reading_total(ring, ("a",)), least_reading(ring, ())), (None, None, DOT))
        self.assert_same([reading_count(ring, ("a",), nodes) for nodes in (1, 2, 3, 5)], [1, 0, 2, 6])
        # A word with parts is no leaf.
        self.assert_same((reading_total(LONG, ("f",)), reading_total(LONG, ("f", "a"))), (0, 0))

    def test_eight_words(self):
        # As many as Catalan's number of seven; in any other sequence as well.
        for words in (("a",) * 8, ("a", "b") * 4, tuple("abbababb")):
            self.assert_same((reading_total(TWO, words), reading_count(TWO, words, 15)), (429, 429))
            self.assert_same((reading_count(TWO, words, 14), reading_count(TWO, words, 60)), (0, 0))
            least = least_reading(TWO, words)
            self.assert_same((len(least), leaves_of(least), oracle.lot_among(TWO, [least])), (15, words, [least]))
            # g(a, g(b, ..)): g comes behind a and b, so what is least is deep behind.
            self.assert_same(least, tuple(s for word in words[:-1] for s in (("g", 2), (word, 0))) + ((words[-1], 0),))
        wide = (1, (0,), ((0, "a", ()), (0, "w", (0, 0, 0, 0))))
        self.assert_same([reading_total(wide, ("a",) * many) for many in range(9)], [0, 1, 0, 0, 1, 0, 0, 4, 0])

    def test_finite_and_endless(self):
        rules = ((0, "a", ()), (0, "f", (0,)), (1, "b", ()), (2, "g", (0, 1)), (2, "g", (1, 1)), (2, "k", (2,)))
        self.assert_same((reading_total((3, (2,), rules), ("a", "b")), reading_total((3, (2,), rules), ("b", "b"))), (None, None))
        rules = rules[:5]
        self.assert_same((reading_total((3, (2,), rules), ("a", "b")), reading_total((3, (2,), rules), ("b", "b"))), (None, 1))
        self.assert_same(reading_total((3, (1, 2), rules), ("b",)), 1)

    def test_drawn_grammars(self):
        draw = Draw(520)
        seen = set()
        for _ in range(250):
            grammar = drawn_driven(draw, 1 + draw.below(4), 3 + draw.below(9), SYMBOLS)
            trees = SEVEN if all(word != "h" for _, word, _ in grammar[2]) else trees_up_to(SYMBOLS, 5)
            most = len(trees[-1])
            lot = oracle.lot_among(grammar, trees)
            for _ in range(3):
                words = leaves_of(draw.one_of(lot or trees)) if draw.below(4) else leaves_of(draw.one_of(trees))
                read = [tree for tree in lot if leaves_of(tree) == words]
                told = least_reading(grammar, words)
                if read:
                    self.assert_same(told, read[0])
                elif told is not None:
                    self.assertGreater(len(told), most)
                    self.assertEqual((leaves_of(told), oracle.lot_among(grammar, [told])), (words, [told]))
                counts = [reading_count(grammar, words, nodes) for nodes in range(most + 1)]
                self.assert_same(counts, [len([tree for tree in read if len(tree) == nodes]) for nodes in range(most + 1)])
                total = reading_total(grammar, words)
                seen.add((total is None, len(read) > 1, told is None))
                if total is not None:
                    self.assertGreaterEqual(total, len(read))
                    later = sum(reading_count(grammar, words, nodes) for nodes in range(most + 1, 41))
                    self.assert_same(total, len(read) + later)
                else:
                    self.assertTrue(any(reading_count(grammar, words, nodes) for nodes in range(most + 1, 30)))
        self.assertEqual(len(seen), 5)

    def test_wrong_parameters(self):
        for thing in WRONG_WORDS:
            for function in (least_reading, reading_total):
                self.assert_not_usable("words", function, TWO, thing)
                self.assert_not_usable("words", function, EMPTY, thing)
            self.assert_not_usable("words", reading_count, TWO, thing, 3)
            self.assert_not_usable("words", reading_count, TWO, thing, None)
        for thing in WRONG_NUMBERS:
            self.assert_not_usable("nodes", reading_count, TWO, ("a",), thing)
            self.assert_not_usable("nodes", reading_count, EMPTY, (), thing)
        self.assert_same(reading_count(ONE, nodes=1, words=("a",)), 1)


if __name__ == "__main__":
    unittest.main()
