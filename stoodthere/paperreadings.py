"""Reading the texts of chains and joins."""

from stoodthere.basics import need
from stoodthere.fieldreaders import FieldReader, plain_number_in

MOST_FIGURES = 60


def lines_of(text):
    """The list of the lines of text; the empty text has none."""
    return text.split("\n") if text != "" else []


class PaperReader(FieldReader):
    """Reads the fields of one line of a chain or of joins, one after the other."""

    def read_figures(self):
        """Reads a field that is a number of at most sixty figures."""
        field = self.seen()
        number = plain_number_in(field) if len(field) <= MOST_FIGURES else None
        if number is None:
            self.refuse()
        self.at += 1
        return number

    def read_word_of(self, words):
        """Reads a field that is one of these words."""
        word = self.seen()
        if word not in words:
            self.refuse()
        self.at += 1
        return word

    def read_chain_line(self):
        """Reads the whole line; returns the line of a chain."""
        if self.read_word_of(("given", "put")) == "given":
            line = ("given", self.read_shown())
        else:
            line = ("put",) + tuple([self.read_figures() for _ in range(5)])
        self.read_end()
        return line

    def read_join(self):
        """Reads the whole line; returns the join."""
        word = self.read_word_of(("root", "up", "down"))
        part = self.read_figures() if word == "down" else 0
        tree = self.read_shown()
        other = self.read_shown()
        self.read_end()
        return (word, tree, other, part)


def read_chain(text):
    """Returns the chain with this text."""
    need(isinstance(text, str), "text")
    return tuple([PaperReader(k, line).read_chain_line() for k, line in enumerate(lines_of(text))])


def read_joins(text):
    """Returns the joins with this text."""
    need(isinstance(text, str), "text")
    return tuple([PaperReader(k, line).read_join() for k, line in enumerate(lines_of(text))])
