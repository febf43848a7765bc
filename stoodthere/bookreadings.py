"""Reading the texts of books."""

from stoodthere.basics import need
from stoodthere.bookkinds import MOST_DEPTH, MOST_KIND, MOST_NUMBERS
from stoodthere.fieldreaders import FieldReader, number_in
from stoodthere.treekinds import is_word


def numbers_in(text):
    """The tuple of the numbers between the brackets of a table's row, or None."""
    if text == "":
        return ()
    numbers = tuple([number_in(field, MOST_KIND) for field in text.split(",")])
    return None if None in numbers or len(numbers) > MOST_NUMBERS else numbers


def group_row_in(field):
    """The row of groups that a field tells, or None."""
    # Without the sign there is nothing behind it, and so no number.
    word, _, rest = field.partition("=")
    number = number_in(rest, MOST_KIND)
    return (word, number) if is_word(word) and number is not None else None


def table_row_in(field):
    """The row of a table that a field tells, or None."""
    # Without these signs there is nothing behind them, and so no last number.
    word, _, rest = field.partition("(")
    inside, _, last = rest.partition(")=")
    numbers = numbers_in(inside)
    number = number_in(last, MOST_KIND)
    if not is_word(word) or numbers is None or number is None:
        return None
    return (word, numbers, number)


def row_in(field, word):
    """The row that a field tells, for "groups" or for "table", or None."""
    return group_row_in(field) if word == "groups" else table_row_in(field)


class BookReader(FieldReader):
    """Reads the fields of a book's text, one after the other."""

    def read_rows(self, word):
        """Reads the rows of groups or of a table, and the "else" behind them."""
        rows = []
        while self.seen() != "else":
            row = row_in(self.seen(), word)
            if row is None or (rows and not rows[-1][:-1] < row[:-1]):
                self.refuse()
            rows.append(row)
            self.at += 1
        self.at += 1
        return tuple(rows)

    def read_simple(self):
        """Reads a simple one."""
        word = self.seen()
        if word not in ("depth", "groups", "table"):
            self.refuse()
        self.at += 1
        if word == "depth":
            return ("depth", self.read_number(MOST_DEPTH))
        rows = self.read_rows(word)
        return (word, rows, self.read_number(MOST_KIND))

    def read_all(self):
        """Reads the whole text; returns the book."""
        simples = [self.read_simple()]
        while not self.is_at_end():
            self.read_sign("+")
            simples.append(self.read_simple())
        return tuple(simples)


def read_book(text):
    """Returns the book with this text."""
    need(isinstance(text, str), "text")
    return BookReader(0, text).read_all()
