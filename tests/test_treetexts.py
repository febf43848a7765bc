"""Texts of trees, and reading them: [19]."""

import re
import unittest

from stoodthere.treereadings import read_pattern, read_tree
from stoodthere.treetexts import shown
from tests import oracle
from tests.checks import Checks
from tests.samples import A, B, DEEPEST_TREE, DOT, FA, FFA, G, SMALL_TREES, SOME_TREES, WRONG_TEXTS, trees_up_to

SIGNS = "ab1-.?(),"
PATTERNS = trees_up_to((("?", 0), ("a", 0), (".", 0), ("f", 1), ("g", 2), ("h", 3)), 5)


WORD = "[a-z][a-z0-9-]{0,15}"


def is_text(text, leaf):
    """Whether text is one of a tree: its innermost brackets are taken away until none is left.

    leaf says which single signs stand for a whole tree; "@" stands for what was taken away.
    """
    leaf = f"(?:{WORD}|[@{leaf}])"
    inner = re.compile(f"(?<![a-z0-9-]){WORD}[(]{leaf}(?:,{leaf}){{0,3}}[)]")
    many = 1
    while many:
        text, many = inner.subn("@", text)
    return re.fullmatch(leaf, text) is not None


def begins_text(text, leaf):
    """Whether text begins one of a tree: a word, and brackets enough, are put behind it."""
    return any(is_text(text + word + ")" * k, leaf) for word in ("", "a") for k in range(text.count("(") + 1))


def symbols_in(text):
    """The words of a text, each with how many parts follow it."""
    symbols = []
    open_roots = []
    for word, sign in re.findall("([a-z0-9.?-]*)([(),]|$)", text):
        if word:
            symbols.append([word, 0])
        if sign == "(":
            open_roots.append(symbols[-1])
            symbols[-1][1] = 1
        elif sign == ",":
            open_roots[-1][1] += 1
        elif sign == ")":
            open_roots.pop()
    return tuple((word, many) for word, many in symbols)


class TestShown(Checks, unittest.TestCase):

    def test_examples(self):
        self.assert_same((shown(G), shown((("f", 2), (".", 0), ("?", 0)))), ("g(f(a),b)", "f(.,?)"))

    def test_many(self):
        for tree in SMALL_TREES + list(SOME_TREES) + PATTERNS:
            self.assert_same(shown(tree), oracle.text(oracle.nested(tree)))

    def test_alone(self):
        self.assert_same((shown(A), shown(DOT), shown((("?", 0),)), shown(FFA)), ("a", ".", "?", "f(f(a))"))

    def test_long(self):
        self.assert_same(shown((("f", 1),) * 399 + A), "f(" * 399 + "a" + ")" * 399)


class TestReading(Checks, unittest.TestCase):

    def test_examples(self):
        self.assert_same((read_tree("f(a)"), read_pattern("?")), ((("f", 1), ("a", 0)), (("?", 0),)))
        self.assert_unread(4, read_tree, "f(a,)")
        self.assert_unread(3, read_tree, "f(a")

    def test_there_and_back(self):
        for tree in SMALL_TREES + list(SOME_TREES):
            self.assert_same(read_tree(shown(tree)), tree)
            self.assert_same(read_pattern(shown(tree)), tree)
        for pattern in PATTERNS:
            self.assert_same(read_pattern(shown(pattern)), pattern)

    def test_deep(self):
        self.assert_same(read_tree(shown(DEEPEST_TREE)), DEEPEST_TREE)
        deep = "f(" * 399 + "a" + ")" * 399
        self.assert_same(read_tree(deep), (("f", 1),) * 399 + A)
        self.assert_unread(len(deep) - 1, read_tree, deep[:-1])
        self.assert_unread(len(deep), read_tree, deep + ")")
        deeper = "f(" * 1300 + "a" + ")" * 1299
        self.assert_unread(len(deeper), read_tree, deeper)
        self.assert_unread(2600, read_tree, deeper[:2600])
        self.assert_unread(2600, read_tree, deeper[:2600] + "," + deeper[2601:])

    def test_long_words(self):
        word = "abcdefgh-1234567"
        self.assert_same(read_tree(word), ((word, 0),))
        self.assert_same(read_tree(word + "(" + word + ")"), ((word, 1), (word, 0)))
        self.assert_unread(16, read_tree, word + "8")
        self.assert_unread(16, read_tree, word + "8(a)")
        self.assert_unread(18, read_tree, "f(" + word + "-)")
        self.assert_unread(16, read_pattern, word + "a")

    def test_many_parts(self):
        self.assert_same(read_tree("w(a,b,.,a)"), (("w", 4),) + A + B + DOT + A)
        self.assert_unread(9, read_tree, "w(a,b,.,a,a)")
        self.assert_unread(9, read_tree, "w(a,b,.,a,")
        self.assert_unread(12, read_tree, "w(a,b,.,f(a),a)")
        self.assert_same(read_tree("w(f(a,a,a,a),b,b,b)"), (("w", 4), ("f", 4)) + A * 4 + B * 3)

    def test_silent_word_and_hole(self):
        self.assert_same(read_tree("."), DOT)
        self.assert_unread(1, read_tree, ".(a)")
        self.assert_unread(1, read_tree, "..")
        self.assert_unread(1, read_tree, ".a")
        self.assert_unread(1, read_tree, "a.")
        self.assert_unread(0, read_tree, "?")
        self.assert_unread(2, read_tree, "f(?)")
        self.assert_unread(1, read_pattern, "?(a)")
        self.assert_unread(1, read_pattern, "??")
        self.assert_unread(1, read_pattern, "?a")
        self.assert_unread(1, read_pattern, "a?")
        self.assert_unread(3, read_pattern, "f(?(a))")
        self.assert_same(read_pattern("f(?,.,?)"), (("f", 3), ("?", 0), (".", 0), ("?", 0)))

    def test_faults(self):
        faults = {
            "": 0, " ": 0, "(": 0, ")": 0, ",": 0, "A": 0, "1": 0, "-": 0, "_": 0, "+": 0, "a ": 1, " a": 0, "a)": 1,
            "a,": 1, "a,b": 1, "a()": 2, "a(": 2, "a(,": 2, "a((": 2, "a(b": 3, "a(b ": 3, "a(b c)": 3, "a(b,": 4,
            "a(b,,": 4, "a(b, c)": 4, "a(b))": 4, "a(b)c": 4, "a(b)(c)": 4, "a(b),": 4, "a(b(c)": 6, "a(b(c)d)": 6,
            "a(b)1": 4, "aB": 1, "a(B)": 2, "a(1)": 2, "a_b": 1, "a(b]": 3, "g(f(a),b": 8, "g(f(a),b))": 9, "f(a": 3,
        }
        for text, at in faults.items():
            self.assert_unread(at, read_tree, text)
            self.assert_unread(at, read_pattern, text)

    def test_all_short_texts(self):
        """Of each text over a few signs: whether it is read, and else where it goes wrong."""
        for reader, leaf, signs in ((read_tree, ".", "a1.(),"), (read_pattern, ".?", "a-?(),")):
            rows = [""]
            for _ in range(8):
                for text in rows:
                    self.check_text(reader, text, len(text), leaf)
                longer = [text + sign for text in rows for sign in signs]
                rows = [text for text in longer if begins_text(text, leaf)]
                for text in longer:
                    if text not in rows:
                        self.assert_unread(len(text) - 1, reader, text)
                        self.assert_unread(len(text) - 1, reader, text + "a)")

    def check_text(self, reader, text, at, leaf):
        if is_text(text, leaf):
            self.assert_same(reader(text), symbols_in(text))
        else:
            self.assert_unread(at, reader, text)

    def test_long_texts_with_one_sign_changed(self):
        for tree in SOME_TREES[:20]:
            text = shown(tree)
            for at in range(len(text)):
                for sign in "a0.(),? ":
                    changed = text[:at] + sign + text[at + 1:]
                    faults = [end for end in range(len(changed)) if not begins_text(changed[:end + 1], ".")]
                    self.check_text(read_tree, changed, min(faults, default=len(changed)), ".")

    def test_without_holes_both_readers_are_alike(self):
        rows = [""]
        for _ in range(5):
            rows = [row + sign for row in rows for sign in SIGNS if sign != "?"][:20000]
        for text in rows[::7]:
            self.assertEqual(self.outcome(read_tree, text), self.outcome(read_pattern, text))

    def outcome(self, reader, text):
        try:
            tree = reader(text)
        except ValueError as error:
            return (type(error), error.line, error.at)
        self.assertEqual(shown(tree), text)
        return tree

    def test_wrong_texts(self):
        for thing in WRONG_TEXTS + (A, FA, None):
            self.assert_not_usable("text", read_tree, thing)
            self.assert_not_usable("text", read_pattern, thing)


if __name__ == "__main__":
    unittest.main()
