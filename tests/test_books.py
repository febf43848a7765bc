"""Books, their checker, their making and their texts: [21], [22], [23]."""

import unittest

from stoodthere.bookchecker import lets_book
from stoodthere.bookkinds import is_book, is_simple
from stoodthere.bookreadings import read_book
from stoodthere.books import depth_book, paired
from stoodthere.booktexts import book_text
from tests.checks import Checks
from tests.samples import A, BOLD, BOOKS, DEEP, FA, MIX, WRONG_NUMBERS, WRONG_TEXTS

SIMPLES = tuple(simple for book in BOOKS for simple in book) + (
    ("depth", 60),
    ("groups", ((".", 99), ("a" * 16, 99)), 99),
    ("groups", (("a", 5), ("a-", 4), ("a0", 3), ("aa", 2), ("b", 1)), 0),
    ("table", ((".", (1, 2), 3), ("f", (0, 1, 2, 99), 0)), 99),
    ("table", (("a", (), 9), ("a", (0,), 8), ("a", (0, 0), 7), ("a", (1,), 6), ("b", (), 5)), 0),
)
DEPTH = ("depth", 3)

# What is no simple one, by the word that the checker tells.
FAULTS = {
    "shape": (
        None, True, 0, "", "depth", (), [], ("depth",), ("depth", 1, 2), ["depth", 1], ("groups",), ("groups", ()),
        ("table", ()), ("groups", (), 0, 0), ("table", (), 0, 0), ["groups", (), 0], ("depths", 1), ("Depth", 1),
        ("row", (), 0), (None, 1), (("depth",), 1), (["groups"], (), 0), ("depth", (), 0), BOLD, 1, (0, 1), ("table",),
        ("groups", 0), ("", (), 0),
    ),
    "depth": tuple(("depth", value) for value in WRONG_NUMBERS + (61, 62, 10 ** 59, (1,))),
    "row": (
        ("groups", None, 0), ("groups", [], 0), ("groups", 0, 0), ("groups", "", 0), ("groups", "ab", 0),
        ("groups", (None,), 0), ("groups", ((),), 0), ("groups", (("a",),), 0), ("groups", (["a", 1],), 0),
        ("groups", (("a", 1, 2),), 0), ("groups", (("a", (), 1),), 0), ("groups", (("A", 1),), 0),
        ("groups", (("", 1),), 0), ("groups", (("?", 1),), 0), ("groups", (("a" * 17, 1),), 0),
        ("groups", (("a", 100),), 0), ("groups", (("a", -1),), 0), ("groups", (("a", True),), 0),
        ("groups", (("a", False),), 0), ("groups", (("a", None),), 0), ("groups", (("a", "1"),), 0),
        ("groups", ((1, 1),), 0), ("groups", (("a", 1), None), 0), ("groups", [("a", 1)], 0), ("groups", ("a",), 0),
        ("table", None, 0), ("table", [], 0), ("table", "", 0), ("table", (None,), 0), ("table", ((),), 0),
        ("table", (("a", 1),), 0), ("table", (("a", (), 1, 1),), 0), ("table", (["a", (), 1],), 0),
        ("table", (("A", (), 1),), 0), ("table", (("a", [], 1),), 0), ("table", (("a", 0, 1),), 0),
        ("table", (("a", None, 1),), 0), ("table", (("a", (100,), 1),), 0), ("table", (("a", (-1,), 1),), 0),
        ("table", (("a", (True,), 1),), 0), ("table", (("a", (0, False), 1),), 0), ("table", (("a", (None,), 1),), 0),
        ("table", (("a", (0, 0, 0, 0, 0), 1),), 0), ("table", (("a", (), 100),), 0), ("table", (("a", (), True),), 0),
        ("table", (("a", (), -1),), 0), ("table", (("a", (), None),), 0), ("table", (("a", (), 1), None), 0),
        ("table", (("a", ((0,),), 1),), 0), ("table", (("a", ("0",), 1),), 0), ("table", (((), (), 1),), 0),
    ),
    "sequence": (
        ("groups", (("b", 1), ("a", 1)), 0), ("groups", (("a", 1), ("a", 1)), 0), ("groups", (("a", 1), ("a", 2)), 0),
        ("groups", (("a", 2), ("a", 1)), 0), ("groups", (("a", 1), ("c", 1), ("b", 1)), 0),
        ("groups", (("a", 1), ("b", 1), ("a", 2)), 0),
        ("table", (("b", (), 1), ("a", (), 1)), 0), ("table", (("a", (), 1), ("a", (), 2)), 0),
        ("table", (("a", (1,), 1), ("a", (0,), 1)), 0), ("table", (("a", (0,), 1), ("a", (), 1)), 0),
        ("table", (("a", (0, 1), 1), ("a", (0, 1), 1)), 0), ("table", (("a", (1,), 1), ("a", (0, 9), 1)), 0),
        ("table", (("a", (10,), 1), ("a", (9,), 1)), 0),
    ),
    "other": tuple(
        (word, rows, value)
        for value in WRONG_NUMBERS + (100, 10 ** 59)
        for word, rows in (("groups", ()), ("table", ()), ("groups", (("a", 1),)), ("table", (("a", (), 1),)))
    ),
}


class TestBookKinds(Checks, unittest.TestCase):

    def test_examples(self):
        told = (is_simple(("groups", (("a", 1), ("b", 1)), 0)), is_simple(("groups", (("b", 1), ("a", 1)), 0)))
        self.assert_same(told, (True, False))
        self.assert_same((is_book(()), is_book((("depth", 60),)), is_book((("depth", True),))), (False, True, False))
        self.assert_refused("sequence", 1, lets_book, (("depth", 0), ("groups", (("a", 1), ("a", 2)), 100)))

    def test_simple_ones(self):
        for simple in SIMPLES:
            self.assert_same(is_simple(simple), True)
            self.assert_same(is_book((simple,)), True)
            self.assert_same(lets_book((simple,)), 1)
        for depth in range(61):
            self.assert_same(is_simple(("depth", depth)), True)

    def test_numbers_to_their_bounds(self):
        for number in (0, 1, 98, 99, 100, 101):
            for simple in (("groups", (("a", number),), 0), ("groups", (), number), ("table", (), number),
                           ("table", (("a", (), number),), 0), ("table", (("a", (0, number), 0),), 0)):
                self.assert_same(is_simple(simple), number < 100)

    def test_books(self):
        for book in BOOKS:
            self.assert_same(is_book(book), True)
            self.assert_same(lets_book(book), len(book))
        self.assert_same((is_book(SIMPLES), lets_book(SIMPLES)), (True, len(SIMPLES)))
        self.assert_same((is_book((DEPTH, DEPTH)), lets_book((DEPTH, DEPTH))), (True, 2))
        many = tuple((f"a{k}", k % 100) for k in range(1000))
        self.assert_same(is_simple(("groups", tuple(sorted(many)), 0)), True)

    def test_no_simple_ones(self):
        for things in FAULTS.values():
            for thing in things:
                self.assert_same(is_simple(thing), False)
                self.assert_same(is_book((thing,)), False)
                self.assert_same(is_book((DEPTH, thing)), False)

    def test_no_books(self):
        for thing in (None, True, 0, 1, "", "depth", (), [], [DEPTH], DEPTH, (DEPTH, None), ((),), A, FA):
            self.assert_same(is_book(thing), False)


class TestBookChecker(Checks, unittest.TestCase):

    def test_shape(self):
        for thing in (None, True, 0, 1, "", "depth", (), [], [DEPTH], 10 ** 59):
            self.assert_refused("shape", -1, lets_book, thing)

    def test_each_fault(self):
        for word, things in FAULTS.items():
            for thing in things:
                self.assert_refused(word, 0, lets_book, (thing,))
                self.assert_refused(word, 2, lets_book, (DEPTH, MIX[1], thing))
                self.assert_refused(word, 1, lets_book, (MIX[2], thing, None))

    def test_the_first_fault_is_told(self):
        bad_row, bad_sequence = (("a", 100),), (("b", 1), ("a", 1))
        self.assert_refused("row", 0, lets_book, (("groups", bad_sequence + bad_row, 100),))
        self.assert_refused("row", 0, lets_book, (("groups", bad_row, 100), None))
        self.assert_refused("sequence", 0, lets_book, (("groups", bad_sequence, 100), None))
        self.assert_refused("other", 0, lets_book, (("groups", (), 100), ("depth", 61)))
        self.assert_refused("depth", 0, lets_book, (("depth", 61), ("groups", bad_row, 0)))
        self.assert_refused("row", 0, lets_book, (("table", (("b", (), 1), ("a", (), 1), ("c", (), 100)), 100),))
        self.assert_refused("sequence", 0, lets_book, (("table", (("b", (), 1), ("a", (), 1)), 100),))
        self.assert_refused("shape", 1, lets_book, (DEPTH, ("depth", 61, 0), ("depth", 61)))


class TestBooks(Checks, unittest.TestCase):

    def test_examples(self):
        self.assert_same((paired(BOLD, depth_book(0)), paired(DEEP, BOLD)), ((("depth", 0),), (("depth", 1), ("depth", 0))))

    def test_depth_book(self):
        for depth in (0, 1, 59, 60):
            self.assert_same(depth_book(depth), (("depth", depth),))
            self.assert_same(is_book(depth_book(depth)), True)

    def test_paired(self):
        for book in BOOKS:
            for other in BOOKS:
                self.assert_same(paired(book, other), book if book == other else book + other)
        self.assert_same(paired(DEEP + BOLD, BOLD), DEEP + BOLD + BOLD)
        self.assert_same(paired(DEEP + BOLD, BOLD + DEEP), DEEP + BOLD + BOLD + DEEP)


class TestBookTexts(Checks, unittest.TestCase):

    def test_examples(self):
        table = ("table", (("a", (), 1), ("f", (0, 1), 2)), 0)
        book = (("depth", 1), ("groups", (("a", 1), ("b", 2)), 0), table)
        self.assert_same(book_text(book), "depth 1 + groups a=1 b=2 else 0 + table a()=1 f(0,1)=2 else 0")
        self.assert_same(read_book("groups else=7 else 0 + depth 2"), (("groups", (("else", 7),), 0), ("depth", 2)))
        self.assert_unread(2, read_book, "groups b=1 a=1 else 0")

    def test_texts(self):
        texts = {
            BOLD: "depth 0",
            (("depth", 60), ("depth", 7)): "depth 60 + depth 7",
            (("groups", (), 99),): "groups else 99",
            (("table", (), 0),): "table else 0",
            (("groups", ((".", 0), ("a-1", 10)), 5),): "groups .=0 a-1=10 else 5",
            (("table", ((".", (), 4), ("g", (1, 22, 0, 99), 10)), 5),): "table .()=4 g(1,22,0,99)=10 else 5",
            (("table", ((".", (3,), 4),), 5), ("depth", 1)): "table .(3)=4 else 5 + depth 1",
        }
        for book, text in texts.items():
            self.assert_same(book_text(book), text)
            self.assert_same(read_book(text), book)

    def test_there_and_back(self):
        for book in BOOKS + (SIMPLES,) + tuple((simple,) for simple in SIMPLES):
            self.assert_same(read_book(book_text(book)), book)
            self.assert_same(book_text(read_book(book_text(book))), book_text(book))

    def test_words_of_the_texts_as_words_of_rows(self):
        text = "groups depth=1 else=2 groups=3 table=4 else 5 + table else()=1 table(1)=2 else 0"
        book = (("groups", (("depth", 1), ("else", 2), ("groups", 3), ("table", 4)), 5),
                ("table", (("else", (), 1), ("table", (1,), 2)), 0))
        self.assert_same(read_book(text), book)

    def test_faults(self):
        faults = {
            0: ("", " ", "  ", "Depth 1", "depth1", "1", "+", "+ depth 1", " depth 1", "else 0", "depths 1", "a=1",
                "group else 0", "groups=1"),
            1: ("depth", "depth ", "depth  1", "depth 61", "depth 100", "depth 01", "depth 00", "depth -1", "depth +1",
                "depth a", "depth +", "depth 1.", "depth 060", "groups", "table", "groups ", "groups + depth 1",
                "groups 0", "groups a", "groups a=", "groups =1", "groups a=100", "groups a=01", "groups a=1=2",
                "groups a==1", "groups A=1", "groups a()=1", "groups a=-1", "groups a=b", "groups " + "a" * 17 + "=1",
                "groups else= else 0", "groups ?=1", "groups Else 0", "table a=1", "table a(=1", "table a)=1",
                "table a()1", "table a()", "table a()=", "table ()=1", "table a(,)=1", "table a(1,)=1", "table a(,1)=1",
                "table a(01)=1", "table a(100)=1", "table a(1)=100", "table a(0,0,0,0,0)=1", "table a(0;0)=1",
                "table a(1)=2)=3", "table a(1)(1)=1", "table (a)=1", "table A()=1", "table a( )=1", "table a()=1=1",
                "table a()==1", "table a(a)=1", "table a(-1)=1", "depth " + "1" * 100, "groups a=" + "1" * 100,
                "table a(1)=01", "table a(+1)=1", "table a()=1,", "table else=1", "table a((1))=1"),
            2: ("depth 1 ", "depth 1 depth 2", "depth 1 2", "depth 1 -", "depth 1 ++", "groups else", "table else",
                "groups else ", "groups else a", "groups else 100", "groups else 00", "groups else=1 ", "groups a=1",
                "groups a=1 ", "groups a=1 a=1 else 0", "groups a=1 a=2 else 0", "groups a=2 a=1 else 0",
                "groups a0=1 a=1 else 0", "groups a=1 +", "groups b=1 a=100", "groups else else 0", "groups else +",
                "table a()=1", "table a()=1 a()=1 else 0", "table a()=1 a()=2 else 0", "table a(1)=1 a(0)=1",
                "table a(1)=1 a(0,5)=1", "table a(0)=1 a()=1", "table b()=1 a()=1 else 0", "table a(10)=1 a(9)=1",
                "table a()=1 b=1 else 0", "depth 1 x", "depth 1 +depth 2"),
            3: ("depth 1 +", "depth 1 + ", "depth 1 + +", "depth 1 +  depth 1", "depth 1 + 1", "groups a=1 else",
                "groups a=1 else -", "table a()=1 else", "groups else 0 ", "groups else 0 0", "groups else 0 else 1",
                "groups else 0 a=1", "table else 0 depth 1", "groups a=1 else  0", "groups a=1 b=2"),
            4: ("depth 1 + depth", "depth 1 + depth 61", "depth 1 + groups", "groups else 0 +", "depth 1 + table x",
                "groups a=1 b=2 c=3", "groups else 0 + ", "groups a=1 else 0 y"),
            5: ("depth 1 + depth 1 ", "depth 1 + depth 1 depth", "depth 1 + groups else", "depth 0 + groups b=1 a=1"),
        }
        for at, texts in faults.items():
            for text in texts:
                self.assert_unread(at, read_book, text)

    def test_each_sign_as_a_number(self):
        for sign in (chr(k) for k in range(33, 127) if k != 37):
            if sign in "0123456789":
                self.assert_same(read_book("depth " + sign), (("depth", int(sign)),))
                self.assert_same(read_book("groups a=" + sign + " else 0"), (("groups", (("a", int(sign)),), 0),))
            else:
                self.assert_unread(1, read_book, "depth " + sign)
                self.assert_unread(1, read_book, "depth 1" + sign)
                self.assert_unread(1, read_book, "groups a=" + sign + " else 0")
                self.assert_unread(1, read_book, "table a(" + sign + ")=1 else 0")
                self.assert_unread(2, read_book, "groups else " + sign)

    def test_long_numbers(self):
        for digits in (3, 100, 3900):
            for start in ("depth ", "groups a=", "table a()=", "table a(1)="):
                self.assert_unread(1, read_book, start + "1" * digits)
                self.assert_unread(1, read_book, start + "0" * digits)

    def test_many_simple_ones(self):
        text = " + ".join(["depth 1"] * 50)
        self.assert_same(read_book(text), (("depth", 1),) * 50)
        self.assert_unread(150, read_book, text + " +")
        self.assert_unread(149, read_book, text + " x")

    def test_each_short_text(self):
        """Texts of a few fields: what is read has this text; what is not is told at the first field that is wrong."""
        fields = ("depth", "groups", "table", "else", "+", "0", "7", "61", "a=1", "b=1", "a()=1", "f(1)=0", "")
        rows = [()]
        for _ in range(4):
            rows = [row + (field,) for row in rows for field in fields]
            for row in rows:
                self.check_fields(row)
            rows = [row for row in rows if self.begins(row)]

    def check_fields(self, row):
        text = " ".join(row)
        try:
            book = read_book(text)
        except ValueError as error:
            self.assertEqual((type(error).__name__, error.line), ("InvalidText", 0))
            self.assertTrue(self.begins(row[:error.at]))
            self.assertTrue(error.at == len(row) or not self.begins(row[:error.at + 1]))
            return
        self.assert_same(is_book(book), True)
        self.assert_same(book_text(book), text)

    def begins(self, row):
        """Whether such fields, with a few more behind them, are the text of a book."""
        ends = ("", "0", "else 0", "depth 0", "+ depth 0", "else 0 + depth 0", "0 + depth 0")
        return any(self.is_text(" ".join(row + ((end,) if end else ()))) for end in ends)

    def is_text(self, text):
        simples = [simple.split(" ") for simple in text.split(" + ")]
        return all(self.is_simple_text(fields) for fields in simples)

    def is_simple_text(self, fields):
        if fields[0] == "depth":
            return len(fields) == 2 and fields[1] in ("0", "7")
        rows = {"groups": ("a=1", "b=1"), "table": ("a()=1", "f(1)=0")}.get(fields[0])
        if rows is None or len(fields) < 3 or fields[-2] != "else" or fields[-1] not in ("0", "7", "61"):
            return False
        middle = tuple(fields[1:-2])
        return middle in ((), rows[:1], rows[1:], rows)

    def test_wrong_texts(self):
        for thing in WRONG_TEXTS + (BOLD, A):
            self.assert_not_usable("text", read_book, thing)


if __name__ == "__main__":
    unittest.main()
