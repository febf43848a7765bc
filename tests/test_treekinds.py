"""Words, symbols, trees, patterns, sentences, and the checker of trees: [13] and [14]."""

import unittest

from stoodthere.treechecker import lets_tree
from stoodthere.treekinds import is_pattern, is_symbol, is_tree, is_trees, is_word
from tests.checks import Checks
from tests.samples import A, B, C, DEEPEST_TREE, DOT, FA, FB, FFA, G, SMALL_TREES, SOME_TREES
from tests.samples import WRONG_SENTENCES, WRONG_TREES, drawn_trees

P = (("g", 2), ("?", 0), ("?", 0))


class TestWords(Checks, unittest.TestCase):

    def test_examples(self):
        self.assert_same((is_word("f-1"), is_word("-f"), is_word("."), is_word("")), (True, False, True, False))

    def test_words(self):
        for word in ("a", "z", "a0", "a9", "a-", "a--", "z9-", "a" * 16, "m" + "0" * 15, "else", "depth", "."):
            self.assert_same(is_word(word), True)

    def test_no_words(self):
        wrong = ("", "a" * 17, "A", "aB", "0", "9a", "-", "-a", "a.", ".a", "..", "?", "_", "a_", "a b", " a", "a ",
                 "a(", "a,", "a+", "a/", "a`", "a{", "{", "`", "@", "a:", "a" * 4000, "+")
        for thing in wrong:
            self.assert_same(is_word(thing), False)

    def test_each_sign(self):
        for sign in (chr(k) for k in range(32, 127) if k != 37):
            self.assert_same(is_word(sign), "a" <= sign <= "z" or sign == ".")
            self.assert_same(is_word("q" + sign), "a" <= sign <= "z" or "0" <= sign <= "9" or sign == "-")
            self.assert_same(is_word("q" * 15 + sign), "a" <= sign <= "z" or "0" <= sign <= "9" or sign == "-")

    def test_any_value(self):
        for thing in (None, True, False, 0, 1, 10 ** 59, (), ("a",), [], ["a"], ("a", 0)):
            self.assert_same(is_word(thing), False)


class TestSymbols(Checks, unittest.TestCase):

    def test_examples(self):
        told = (is_symbol((".", 1)), is_symbol(["a", 0]), is_symbol(("a", True)))
        self.assert_same(told, (False, False, False))

    def test_each_many(self):
        for many in range(-1, 7):
            self.assert_same(is_symbol(("a", many)), 0 <= many <= 4)
            self.assert_same(is_symbol((".", many)), many == 0)

    def test_no_symbols(self):
        wrong = (None, True, 0, "", "a", "ab", "a0", (), [], ("a",), ("a", 0, 0), (0, "a"), ("a", None), ("a", False),
                 ("a", True), (".", False), ("a", "0"), ("a", (0,)), ("a", [0]), ("", 0), ("A", 0), ("?", 0),
                 ("_", 0), (None, 0), (("a",), 0), (["a"], 0), ("a", 10 ** 59), ("a" * 17, 0), ("a", -1))
        for thing in wrong:
            self.assert_same(is_symbol(thing), False)


class TestTrees(Checks, unittest.TestCase):

    def test_examples(self):
        told = (is_tree(FA), is_tree((("f", 1),)), is_pattern((("f", 1), ("?", 0))))
        self.assert_same(told, (True, False, True))
        self.assert_same((is_trees(()), is_trees((A, B)), is_trees((A, A))), (True, True, False))

    def test_trees(self):
        for tree in SMALL_TREES + list(SOME_TREES):
            self.assert_same(is_tree(tree), True)
            self.assert_same(is_pattern(tree), True)
            self.assert_same(lets_tree(tree), len(tree))

    def test_beyond_the_limits(self):
        long = (("f", 1),) * 1599 + (("a", 0),)
        self.assert_same((is_tree(long), is_pattern(long), lets_tree(long)), (True, True, 1600))
        self.assert_same((is_tree(long[1:]), is_tree(long + A), is_tree(long[:-1])), (True, False, False))
        self.assert_refused("end", 1599, lets_tree, long[:-1])
        self.assert_same(is_trees(tuple(long[k:] for k in range(1560, 1600))), True)

    def test_no_trees(self):
        for thing in WRONG_TREES:
            self.assert_same(is_tree(thing), False)
            with self.assertRaises(ValueError):
                lets_tree(thing)

    def test_nested_thirty_deep(self):
        thing = ()
        for _ in range(29):
            thing = (thing, [thing])[:1]
        for value in (thing, [thing], (thing, 0), (("a", thing),), ((thing, 0),)):
            self.assert_same(is_tree(value), False)
            self.assert_same(is_trees(value), False)
            self.assert_same(is_pattern(value), False)
            self.assert_same(is_symbol(value), False)

    def test_accepts_just_trees(self):
        """All tuples of at most four entries of a few, some of them no symbols."""
        entries = (("a", 0), ("f", 1), ("g", 2), (".", 0), ("?", 0), ("a", False), None)
        rows = [()]
        for _ in range(4):
            for row in rows:
                self.check_accepted(row)
            rows = [row + (entry,) for row in rows for entry in entries]

    def check_accepted(self, row):
        missing, right, right_with_holes = 1, len(row) > 0, len(row) > 0
        for word, many in [entry or ("", 0) for entry in row]:
            right_with_holes = right_with_holes and missing > 0 and many is not False and word != ""
            right = right and right_with_holes and word != "?"
            missing += many - 1
        right, right_with_holes = right and missing == 0, right_with_holes and missing == 0
        self.assert_same(is_tree(row), right)
        self.assert_same(is_pattern(row), right_with_holes)
        try:
            self.assert_same(lets_tree(row), len(row))
            accepted = True
        except ValueError:
            accepted = False
        self.assert_same(accepted, right)


class TestPatterns(Checks, unittest.TestCase):

    def test_patterns(self):
        for pattern in ((("?", 0),), P, (("f", 1), ("?", 0)), (("w", 4), ("?", 0), ("a", 0), ("?", 0), ("?", 0))):
            self.assert_same(is_pattern(pattern), True)
            self.assert_same(is_tree(pattern), False)

    def test_no_patterns(self):
        wrong = [thing for thing in WRONG_TREES if thing not in ((("?", 0),), (("f", 1), ("?", 0)))]
        wrong += [(("?", False),), (("?", 1), ("a", 0)), (["?", 0],), ("?", 0), "?", (("?", 0), ("?", 0)), (("?",),),
                  (("f", 1), ("?", False)), (("?", 0, 0),), (("??", 0),), (("?", -1),), [("?", 0)]]
        for thing in wrong:
            self.assert_same(is_pattern(thing), False)


class TestSentences(Checks, unittest.TestCase):

    def test_sentences(self):
        for thing in ((), (A,), (A, B, FA), (FA, A), (DOT, DEEPEST_TREE), drawn_trees(3, 60, 9)):
            self.assert_same(is_trees(thing), True)

    def test_beyond_the_limits(self):
        many = tuple(SMALL_TREES[:200])
        self.assert_same((is_trees(many), is_trees(many + (A,)), is_trees((FA,) + many)), (True, False, False))

    def test_no_sentences(self):
        for thing in WRONG_SENTENCES:
            self.assert_same(is_trees(thing), False)
        for thing in WRONG_TREES:
            self.assert_same(is_trees((thing,)), False)
            self.assert_same(is_trees((A, B, thing)), False)
        self.assert_same(is_trees((A, B, C, B)), False)


class TestTreeChecker(Checks, unittest.TestCase):

    def test_examples(self):
        self.assert_same(lets_tree(FA), 2)
        self.assert_refused("behind", 1, lets_tree, (("a", 0), None))
        self.assert_refused("end", 1, lets_tree, (("f", 1),))

    def test_shape(self):
        for thing in (None, True, 0, 1, "", "a", [], [("a", 0)], (), 10 ** 59):
            self.assert_refused("shape", -1, lets_tree, thing)

    def test_symbol(self):
        for entry in (None, True, 0, "a", (), ["a", 0], ("a", False), ("f", 5), (".", 1), ("?", 0), ("_", 0), ("A", 0)):
            self.assert_refused("symbol", 0, lets_tree, (entry,))
            self.assert_refused("symbol", 0, lets_tree, (entry, entry))
            self.assert_refused("symbol", 1, lets_tree, (("f", 1), entry))
            self.assert_refused("symbol", 2, lets_tree, (("g", 2), ("a", 0), entry))

    def test_behind(self):
        for entry in (None, ("a", 0), ("f", 1), ("?", 0), [], ()):
            self.assert_refused("behind", 1, lets_tree, A + (entry,))
            self.assert_refused("behind", 2, lets_tree, FA + (entry, entry))
            self.assert_refused("behind", 4, lets_tree, G + (entry, ("a", 0)))

    def test_end(self):
        self.assert_refused("end", 2, lets_tree, (("g", 2), ("a", 0)))
        self.assert_refused("end", 3, lets_tree, (("w", 4), ("f", 1), ("a", 0)))
        self.assert_refused("end", 1, lets_tree, (("w", 4),))

    def test_the_first_fault_is_told(self):
        self.assert_refused("symbol", 1, lets_tree, (("g", 2), None))
        self.assert_refused("symbol", 1, lets_tree, (("f", 1), None, None))
        self.assert_refused("symbol", 0, lets_tree, (("f", True),))
        self.assert_refused("behind", 1, lets_tree, (("a", 0), ("f", 1)))

    def test_by_name(self):
        self.assert_same(lets_tree(thing=FFA), 3)
        self.assert_same(is_word(thing="a"), True)
        self.assert_same(is_symbol(thing=("a", 0)), True)
        self.assert_same(is_tree(thing=FB), True)
        self.assert_same(is_pattern(thing=P), True)
        self.assert_same(is_trees(thing=(A,)), True)


if __name__ == "__main__":
    unittest.main()
