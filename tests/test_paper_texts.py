"""Texts of chains, joins, events and logs, and their readers: [94] to [97]."""

import unittest

from stoodthere.errors import InvalidText
from stoodthere.events import is_event
from stoodthere.eventtexts import event_line, log_text, read_event, read_log
from stoodthere.paperreadings import read_chain, read_joins
from stoodthere.papertexts import chain_text, joins_text
from tests import oracle
from tests.checks import Checks
from tests.samples import A, B, BOLD, BOOKS, DEEP, DEEPEST_TREE, DOT, FA, FB, FFA, G, MIX, SOME_TREES, WRONG_TEXTS
from tests.samples import WRONG_TREES, Draw

BIG = 10 ** 60 - 1
CHAIN = (("given", A), ("given", FA), ("put", 1, 1, 0, 0, 1), ("given", G), ("put", BIG, 0, 10, 9, 100))
JOINS = (("root", A, FA, 0), ("down", FA, FB, 0), ("up", G, DOT, 0), ("down", G, A, BIG))
LOG = (("put", FA), ("book", DEEP), ("bar", G), ("take", FA), ("free", G), ("book", MIX), ("put", DOT))
# Fields that are no text of any tree.
NO_TREES = ("", "?", "f(?)", "f(", "f(a", "f(a,)", "f()", ")", "A", "1", "f(a))", "f(a)b", ".(a)", "a_b", "w(a,a,a,a,a)", "a" * 17)
NO_NUMBERS = ("", "-1", "+1", "01", "00", "1" + "0" * 60, "0" * 60, "a", "1a", "1.0", "?", "True", ".")
# What reads one line, whichever it is, and what reads the whole.
READERS = (read_chain, read_joins, read_event, read_log)


class TextChecks(Checks):

    def assert_fault(self, reader, text, line, at):
        with self.assertRaises(InvalidText) as caught:
            reader(text)
        self.assertIs(type(caught.exception), InvalidText)
        self.assert_same((caught.exception.line, caught.exception.at), (line, at))

    def assert_bad_line(self, reader, good, bad, at):
        """A bad line alone, ahead of and behind good ones, and ahead of another bad one."""
        for before in range(3):
            lines = [good] * before + [bad]
            for lines_behind in ([], [good], ["", "x"]):
                text = "\n".join(lines + lines_behind)
                # The empty text has no line.
                if text != "":
                    self.assert_fault(reader, text, before, at)


class TestChainTexts(TextChecks, unittest.TestCase):

    def test_example(self):
        text = chain_text((("given", A), ("given", FA), ("put", 1, 1, 0, 0, 1)))
        self.assert_same(text, "given a\ngiven f(a)\nput 1 1 0 0 1")
        self.assert_same(read_chain(""), ())
        self.assert_fault(read_chain, "given a\nput 0 0", 1, 3)

    def test_there_and_back(self):
        for chain in ((), CHAIN, CHAIN[:1], CHAIN[2:3], (CHAIN[0],) * 3):
            self.assert_same(read_chain(chain_text(chain)), chain)
        self.assert_same(chain_text(()), "")
        self.assert_same(chain_text(CHAIN), "given a\ngiven f(a)\nput 1 1 0 0 1\ngiven g(f(a),b)\nput " + "9" * 60 + " 0 10 9 100")
        self.assert_same(chain_text(chain=CHAIN), chain_text(CHAIN))
        draw = Draw(540)
        for _ in range(60):
            lines = []
            for _ in range(draw.below(6)):
                numbers = tuple(draw.below(3) * draw.below(10 ** 9) ** draw.below(6) for _ in range(5))
                lines.append(draw.one_of((("given", draw.one_of(SOME_TREES)), ("put",) + numbers)))
            text = "\n".join(" ".join([line[0], oracle.text(oracle.nested(line[1]))] if line[0] == "given" else
                                      [str(field) for field in line]) for line in lines)
            self.assert_same((chain_text(tuple(lines)), read_chain(text)), (text, tuple(lines)))

    def test_first_field(self):
        for word in ("", "Given", "giv", "givena", "putt", "root", "f(a)", "1", "given\t"):
            self.assert_bad_line(read_chain, "given a", word + " a", 0)
            self.assert_bad_line(read_chain, "put 0 0 0 0 0", word, 0)
        self.assert_bad_line(read_chain, "given a", " given a", 0)
        for text in ("\n", "\n\n", "\ngiven a", " ", "  "):
            self.assert_fault(read_chain, text, 0, 0)
        self.assert_fault(read_chain, "given a\n", 1, 0)
        self.assert_fault(read_chain, "given a\n\ngiven a", 1, 0)

    def test_trees(self):
        for field in NO_TREES:
            self.assert_bad_line(read_chain, "given a", "given " + field, 1)
            self.assert_bad_line(read_chain, "given a", "given " + field + " a", 1)
        self.assert_bad_line(read_chain, "given a", "given  a", 1)
        self.assert_bad_line(read_chain, "given a", "given g(a, b)", 1)

    def test_numbers(self):
        for field in NO_NUMBERS:
            for at in range(1, 6):
                fields = ["put", "0", "1", "2", "3", "4"]
                fields[at] = field
                self.assert_bad_line(read_chain, "put 0 0 0 0 0", " ".join(fields), at)
        self.assert_same(read_chain("put 0 10 0 0 " + "9" * 60), (("put", 0, 10, 0, 0, BIG),))

    def test_missing_and_one_too_many(self):
        fields = "put 0 0 0 0 0".split()
        for many in range(1, 6):
            self.assert_bad_line(read_chain, "given a", " ".join(fields[:many]), many)
        self.assert_bad_line(read_chain, "given a", "given", 1)
        for more in ("0", "a", "", "given"):
            self.assert_bad_line(read_chain, "given a", "put 0 0 0 0 0 " + more, 6)
            self.assert_bad_line(read_chain, "given a", "given f(a) " + more, 2)

    def test_wrong_texts(self):
        for thing in WRONG_TEXTS + (("",), [""], A):
            for reader in READERS:
                self.assert_not_usable("text", reader, thing)


class TestJoinTexts(TextChecks, unittest.TestCase):

    def test_example(self):
        self.assert_same(joins_text((("down", FA, FB, 0),)), "down 0 f(a) f(b)")
        self.assert_same(read_joins("up a b"), (("up", A, B, 0),))

    def test_there_and_back(self):
        for joins in ((), JOINS, JOINS[:1], JOINS[1:2], (JOINS[0],) * 3):
            self.assert_same(read_joins(joins_text(joins)), joins)
        wanted = "root a f(a)\ndown 0 f(a) f(b)\nup g(f(a),b) .\ndown " + "9" * 60 + " g(f(a),b) a"
        self.assert_same((joins_text(()), joins_text(joins=JOINS)), ("", wanted))
        draw = Draw(541)
        for _ in range(60):
            joins, lines = [], []
            for _ in range(draw.below(6)):
                tree, other, word = draw.one_of(SOME_TREES), draw.one_of(SOME_TREES), draw.one_of(("root", "up", "down"))
                part = draw.below(2) * draw.below(10 ** 8) ** draw.below(7) if word == "down" else 0
                joins.append((word, tree, other, part))
                texts = [oracle.text(oracle.nested(one)) for one in (tree, other)]
                lines.append(" ".join([word] + ([str(part)] if word == "down" else []) + texts))
            self.assert_same((joins_text(tuple(joins)), read_joins("\n".join(lines))), ("\n".join(lines), tuple(joins)))

    def test_first_field(self):
        for word in ("", "Root", "given", "put", "ups", "roo", "0", "a"):
            self.assert_bad_line(read_joins, "up a b", word + " a b", 0)
            self.assert_bad_line(read_joins, "up a b", word, 0)
        for text in ("\n", "\nup a b", " ", " up a b"):
            self.assert_fault(read_joins, text, 0, 0)
        self.assert_fault(read_joins, "up a b\n", 1, 0)

    def test_fields(self):
        for field in NO_TREES:
            for word in ("root", "up"):
                self.assert_bad_line(read_joins, "up a b", f"{word} {field} a", 1)
                self.assert_bad_line(read_joins, "up a b", f"{word} a {field}", 2)
            self.assert_bad_line(read_joins, "up a b", f"down 0 {field} a", 2)
            self.assert_bad_line(read_joins, "up a b", f"down 0 a {field}", 3)
        for field in NO_NUMBERS:
            self.assert_bad_line(read_joins, "up a b", f"down {field} a b", 1)
        # Only "down" has a number.
        self.assert_bad_line(read_joins, "up a b", "up 0 a b", 1)
        self.assert_bad_line(read_joins, "up a b", "root 0 a b", 1)
        self.assert_bad_line(read_joins, "up a b", "down a b", 1)
        self.assert_same(read_joins("down " + "9" * 60 + " a b"), (("down", A, B, BIG),))

    def test_missing_and_one_too_many(self):
        for line in ("up a b", "root a b", "down 0 a b"):
            fields = line.split()
            for many in range(1, len(fields)):
                self.assert_bad_line(read_joins, "up a b", " ".join(fields[:many]), many)
            for more in ("a", "0", "", "up"):
                self.assert_bad_line(read_joins, "up a b", line + " " + more, len(fields))


class TestEvents(TextChecks, unittest.TestCase):

    def test_example(self):
        self.assert_same((is_event(("put", A)), is_event(["put", A]), is_event(("book", ()))), (True, False, False))
        self.assert_same(log_text((("put", FA), ("book", DEEP))), "put f(a)\nbook depth 1")
        self.assert_fault(read_event, "book depth x", 0, 2)

    def test_events(self):
        for word in ("put", "bar", "take", "free"):
            for tree in SOME_TREES[:12]:
                self.assert_same(is_event((word, tree)), True)
            for thing in WRONG_TREES + (MIX, DEEP):
                self.assert_same(is_event((word, thing)), False)
        for book in BOOKS:
            # The boldest book alone is a tree, too, of the word "depth".
            self.assert_same((is_event(("book", book)), is_event(("put", book))), (True, book == BOLD))
        for thing in (None, True, 0, "", (), [], A, BOLD[0], (("depth", True),), (("depth", 61),), [("depth", 0)]):
            self.assert_same(is_event(("book", thing)), False)
        for thing in (None, True, 0, "", "put", (), [], ("put",), (A,), ("put", A, A), ["put", A], ("puts", A), ("", A),
                      (None, A), (True, A), (["put"], A), (("put",), A), ("Put", A), ("log", ()), A, FA, {"put": A}):
            self.assert_same(is_event(thing), False)

    def test_there_and_back(self):
        for event in LOG:
            self.assert_same(read_event(event_line(event)), event)
            self.assert_same(read_log(event_line(event)), (event,))
        for log in ((), LOG, LOG[:1], LOG * 42):
            self.assert_same(read_log(log_text(log)), log)
        self.assert_same(log_text(LOG[:4]), "put f(a)\nbook depth 1\nbar g(f(a),b)\ntake f(a)")
        self.assert_same((log_text(()), read_log("")), ("", ()))
        for book in BOOKS:
            self.assert_same(read_event(event_line(("book", book))), ("book", book))
        self.assert_same(event_line(event=("free", DEEPEST_TREE)), "free " + "f(" * 59 + "a" + ")" * 59)
        self.assert_same(event_line(("book", MIX)), "book depth 1 + groups a=5 else 0 + table a()=1 f(1)=2 else 9")

    def test_first_field(self):
        for word in ("", "Put", "pu", "putt", "given", "depth", "a", "0", "books"):
            self.assert_bad_line(read_log, "put a", word + " a", 0)
            self.assert_bad_line(read_log, "book depth 1", word, 0)
            self.assert_fault(read_event, word + " a", 0, 0)
        for text in ("\n", "\nput a", " ", " put a"):
            self.assert_fault(read_log, text, 0, 0)
        self.assert_fault(read_log, "put a\n", 1, 0)
        self.assert_fault(read_event, "", 0, 0)
        self.assert_fault(read_event, " put a", 0, 0)

    def test_trees(self):
        for word in ("put", "bar", "take", "free"):
            self.assert_bad_line(read_log, "put a", word, 1)
            self.assert_fault(read_event, word, 0, 1)
            for field in NO_TREES:
                self.assert_bad_line(read_log, "put a", f"{word} {field}", 1)
                self.assert_fault(read_event, f"{word} {field} x", 0, 1)
            for more in ("", "a", "0", "put"):
                self.assert_bad_line(read_log, "put a", f"{word} f(a) {more}", 2)
                self.assert_fault(read_event, f"{word} f(a) {more}", 0, 2)

    def test_books(self):
        """The book begins at field 1; what cannot stand is told with the number of its field in the line."""
        for text, at in (("", 1), ("depths 1", 1), ("depth", 2), ("depth 61", 2), ("depth 01", 2), ("depth 1 ", 3),
                         ("depth 1 1", 3), ("depth 1 +", 4), ("depth 1 + groups", 5), ("groups b=1 a=1 else 0", 3),
                         ("groups a=1 else", 4), ("groups else 100", 3), ("table f(0)=100 else 0", 2),
                         ("table a()=1 f(0,1)=2 f(0,1)=3 else 0", 4), ("+ depth 1", 1), ("f(a)", 1)):
            self.assert_bad_line(read_log, "put a", "book " + text, at)
            self.assert_fault(read_event, "book " + text, 0, at)
        self.assert_bad_line(read_log, "put a", "book", 1)
        self.assert_fault(read_event, "book", 0, 1)

    def test_long_logs(self):
        log = tuple(("put", tree) if k % 2 else ("book", BOOKS[k % len(BOOKS)]) for k, tree in enumerate(SOME_TREES * 7))[:300]
        self.assertEqual(len(log), 300)
        text = log_text(log)
        self.assert_same((text.count("\n"), read_log(text)), (299, log))
        self.assert_fault(read_log, text + " ", 299, len(text.split("\n")[299].split(" ")))


class TestSpoiltTexts(TextChecks, unittest.TestCase):

    def test_signs_turned_lost_doubled_and_put_in(self):
        """What is still read is written as the same text; else a field of the first line with a fault is told."""
        draw = Draw(542)
        refused = 0
        for reader, writer, text in ((read_chain, chain_text, chain_text(CHAIN)), (read_joins, joins_text, joins_text(JOINS)),
                                     (read_log, log_text, log_text(LOG))):
            for _ in range(700):
                at, sign = draw.below(len(text)), draw.one_of("ab f(),.?01-+=\nputgivendownbooktake")
                spoilt = draw.one_of((text[:at] + text[at + 1:], text[:at] + text[at] + text[at:],
                                      text[:at] + sign + text[at:], text[:at] + sign + text[at + 1:],
                                      text[:at] + text[at:at + 2][::-1] + text[at + 2:]))
                try:
                    told = reader(spoilt)
                except InvalidText as error:
                    refused += 1
                    lines = spoilt.split("\n")
                    self.assertTrue(0 <= error.line < len(lines))
                    fields = lines[error.line].split(" ")
                    self.assertTrue(0 <= error.at <= len(fields))
                    # The lines ahead of it are right, and with none behind it the fault is the same.
                    ahead = "\n".join(lines[:error.line])
                    self.assert_same(writer(reader(ahead)), ahead)
                    self.assert_fault(reader, "\n".join(lines[:error.line + 1]), error.line, error.at)
                    if error.at < len(fields):
                        cut = lines[:error.line] + [" ".join(fields[:error.at + 1])]
                        self.assert_fault(reader, "\n".join(cut), error.line, error.at)
                else:
                    self.assert_same(writer(told), spoilt)
        self.assertGreater(refused, 1000)


if __name__ == "__main__":
    unittest.main()
