"""Texts of grammars, and reading them: [50]."""

import unittest

from stoodthere.errors import InvalidText
from stoodthere.grammarreadings import read_grammar
from stoodthere.grammartexts import grammar_text
from tests.checks import Checks
from tests.samples import EMPTY, EVEN, FOUND, LONG, SMALL_SYMBOLS, WRONG_TEXTS, Draw, drawn_grammar

WIDE_RULES = ((0, ".", ()), (0, "a-1", (1, 1, 0, 0)), (1, "a", ()), (1, "a", (0,)), (1, "a", (0, 0)), (1, "a" * 16, ()))


class TestGrammarTexts(Checks, unittest.TestCase):

    def assert_fault(self, line, at, text):
        with self.assertRaises(InvalidText) as caught:
            read_grammar(text)
        self.assertIs(type(caught.exception), InvalidText)
        self.assert_same((caught.exception.line, caught.exception.at), (line, at))

    def assert_fault_in_rule(self, at, rule, names=12):
        """The same fault wherever the line stands, and with a later fault beside it."""
        head = f"names {names}\nstart\n"
        self.assert_fault(2, at, head + rule)
        self.assert_fault(2, at, head + rule + "\n")
        self.assert_fault(3, at, head + "0 = a\n" + rule)
        self.assert_fault(3, at, head + "0 = a\n" + rule + "\n0 = a\nx")

    def test_examples(self):
        self.assert_same(grammar_text(LONG), "names 1\nstart 0\n0 = a\n0 = f 0")
        wanted = (2, (1,), ((0, "a", ()), (1, "f", (0, 0))))
        self.assert_same(read_grammar("names 2\nstart 1\n1 = f 0 0\n0 = a"), wanted)
        self.assert_fault(2, 3, "names 1\nstart 0\n0 = f 1")
        self.assert_fault(2, 2, "names 1\nstart 0\n0 =")

    def test_texts(self):
        for grammar, text in (
            (EMPTY, "names 0\nstart"),
            ((7, (), ()), "names 7\nstart"),
            ((12, (0, 3, 11), ()), "names 12\nstart 0 3 11"),
            (EVEN, "names 2\nstart 0\n0 = a\n0 = f 1\n1 = f 0"),
            ((2, (0, 1), WIDE_RULES), "names 2\nstart 0 1\n0 = .\n0 = a-1 1 1 0 0\n1 = a\n1 = a 0\n1 = a 0 0\n1 = " + "a" * 16),
            ((10 ** 199, (10 ** 198,), ()), "names 1" + "0" * 199 + "\nstart 1" + "0" * 198),
        ):
            self.assert_same(grammar_text(grammar), text)
            self.assert_same(read_grammar(text), grammar)

    def test_there_and_back(self):
        draw = Draw(190)
        for _ in range(150):
            grammar = drawn_grammar(draw, 1 + draw.below(20), draw.below(30), SMALL_SYMBOLS + (("w-2", 4), (".", 0)))
            text = grammar_text(grammar)
            self.assert_same(read_grammar(text), grammar)
            self.assertEqual(text.count("\n"), 1 + len(grammar[2]))
            lines = text.split("\n")
            drawn = draw.some_of(lines[2:], len(lines))
            self.assert_same(read_grammar("\n".join(lines[:2] + drawn)), grammar)

    def test_rules_in_any_sequence(self):
        self.assert_same(read_grammar("names 2\nstart 1\n1 = f 0\n0 = b\n0 = a"), FOUND)
        self.assert_same(read_grammar("names 2\nstart 1\n0 = b\n1 = f 0\n0 = a"), FOUND)

    def test_line_0(self):
        for at, line in ((0, ""), (0, " "), (0, "name 1"), (0, "Names 1"), (0, "1"), (0, " names 1"), (0, "names1"),
                         (1, "names"), (1, "names "), (1, "names 01"), (1, "names 00"), (1, "names -1"), (1, "names +1"),
                         (1, "names x"), (1, "names  1"), (1, "names 1x"), (1, "names 1.0"), (2, "names 1 "),
                         (2, "names 1 2"), (2, "names 0 0"), (0, "start")):
            self.assert_fault(0, at, line)
            self.assert_fault(0, at, line + "\nstart\n0 = a")
            self.assert_fault(0, at, line + "\n\n")

    def test_a_line_too_few(self):
        for names in ("0", "1", "99"):
            self.assert_fault(1, 0, "names " + names)

    def test_line_1(self):
        for at, line in ((0, ""), (0, " "), (0, "0"), (0, "starts"), (0, "Start"), (0, " start"), (0, "0 = a"),
                         (1, "start "), (1, "start x"), (1, "start 3"), (1, "start 00"), (1, "start 01"), (1, "start -1"),
                         (1, "start  0"), (2, "start 0 "), (2, "start 0 0"), (2, "start 1 0"), (2, "start 0 3"),
                         (3, "start 0 1 1"), (3, "start 0 2 1"), (4, "start 0 1 2 3"), (3, "start 0 1  2"),
                         (1, "start 1" + "0" * 150)):
            self.assert_fault(1, at, "names 3\n" + line)
            self.assert_fault(1, at, "names 3\n" + line + "\nx")
        self.assert_fault(1, 1, "names 0\nstart 0")

    def test_fields_of_rules(self):
        for rule in ("", " ", "x", "12 = a", "00 = a", "01 = a", "-1 = a", " 0 = a", "= a", "a = 0"):
            self.assert_fault_in_rule(0, rule)
        for rule in ("0", "0 ", "0 a", "0 == a", "0  = a", "0 a =", "0 0 = a"):
            self.assert_fault_in_rule(1, rule)
        for rule in ("0 =", "0 = ", "0 = A", "0 = ?", "0 = a_b", "0 = " + "a" * 17, "0 =  a", "0 = 0", "0 = -a", "0 = ..",
                     "0 = a,b", "0 = _"):
            self.assert_fault_in_rule(2, rule)
        for rule in ("0 = f ", "0 = f 12", "0 = f x", "0 = f 00", "0 = f  1", "0 = . 0", "0 = . ", "0 = f -1",
                     "0 = f 1" + "0" * 150):
            self.assert_fault_in_rule(3, rule)
        for rule in ("0 = f 0 ", "0 = f 0 12", "0 = f 0 a", "0 = f 0  0"):
            self.assert_fault_in_rule(4, rule)
        for rule in ("0 = f 0 1 2 01", "0 = f 0 0 0 12"):
            self.assert_fault_in_rule(6, rule)
        for rule in ("0 = f 0 1 2 3 4", "0 = f 0 0 0 0 0 0", "0 = f 0 0 0 0 ", "0 = f 0 0 0 0 x"):
            self.assert_fault_in_rule(7, rule)
        self.assert_fault(2, 0, "names 0\nstart\n0 = a")

    def test_a_rule_twice(self):
        self.assert_fault(3, 0, "names 1\nstart 0\n0 = a\n0 = a")
        self.assert_fault(5, 0, "names 2\nstart 0\n1 = f 0\n0 = a\n0 = f 0\n1 = f 0\n0 = a\nx")
        # A fault in the line itself comes first, and so does one in an earlier line.
        self.assert_fault(3, 3, "names 1\nstart 0\n0 = a\n0 = a ")
        self.assert_fault(3, 2, "names 1\nstart 0\n0 = a\n0 = A\n0 = a")
        wanted = (1, (0,), ((0, "a", ()), (0, "a", (0,))))
        self.assert_same(read_grammar("names 1\nstart 0\n0 = a 0\n0 = a"), wanted)

    def test_newline_at_the_end(self):
        self.assert_fault(2, 0, "names 1\nstart 0\n")
        self.assert_fault(4, 0, grammar_text(LONG) + "\n")
        self.assert_fault(2, 0, "names 1\nstart 0\n\n0 = a")

    def test_each_text_that_is_read_is_that_of_its_grammar(self):
        """Lines changed in one sign: they are refused, or tell the grammar whose text they are, but for the sequence."""
        draw = Draw(191)
        text = grammar_text((11, (0, 10), ((0, "a", ()), (1, "f", (0,)), (10, "g", (1, 0)))))
        read = 0
        for k in range(len(text) + 1):
            for sign in " 01=af\n.":
                for other in (text[:k] + sign + text[k:], text[:k] + sign + text[k + 1:], text[:k] + text[k + 1:]):
                    try:
                        grammar = read_grammar(other)
                    except InvalidText as error:
                        lines = other.split("\n")
                        self.assertLessEqual(error.line, len(lines))
                        fields = lines[error.line].split(" ") if error.line < len(lines) else []
                        self.assertLessEqual(error.at, len(fields))
                        continue
                    read += 1
                    self.assert_same(sorted(grammar_text(grammar).split("\n")[2:]), sorted(other.split("\n")[2:]))
                    self.assert_same(grammar_text(grammar).split("\n")[:2], other.split("\n")[:2])
        self.assertGreater(read, 100)

    def test_wrong_text(self):
        for thing in WRONG_TEXTS:
            self.assert_not_usable("text", read_grammar, thing)
        self.assert_not_usable("text", read_grammar, LONG)


if __name__ == "__main__":
    unittest.main()
