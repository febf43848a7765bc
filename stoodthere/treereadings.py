"""Reading the texts of trees and patterns."""

from stoodthere.basics import need
from stoodthere.errors import InvalidText
from stoodthere.treekinds import HOLE, LETTERS, LONGEST_WORD, MOST_PARTS, SILENT, WORD_SIGNS


class TreeReader:
    """Reads one text sign by sign, and keeps the symbols that it has read."""

    def __init__(self, text, may_have_holes):
        self.text = text
        self.at = 0
        self.single_signs = SILENT + HOLE[0] if may_have_holes else SILENT
        # Each entry is a list [word, many], as the many of a root grows with its parts.
        self.entries = []
        # The entries whose brackets are still open.
        self.open_entries = []

    def sign(self):
        """The sign that is to be read next, "" at the end."""
        return self.text[self.at:self.at + 1]

    def refuse(self):
        """Tells that the next sign cannot stand there, or that one is missing."""
        raise InvalidText(0, self.at)

    def read_symbol(self):
        """Reads a word; returns whether a bracket may follow it."""
        begin = self.at
        sign = self.sign()
        if sign == "" or sign not in LETTERS + self.single_signs:
            self.refuse()
        self.at += 1
        if sign in LETTERS:
            self.read_word_rest(begin)
        self.entries.append([self.text[begin:self.at], 0])
        return sign in LETTERS

    def read_word_rest(self, begin):
        """Goes behind the last sign of the word that begins there."""
        sign = self.sign()
        while sign != "" and sign in WORD_SIGNS and self.at - begin < LONGEST_WORD:
            self.at += 1
            sign = self.sign()

    def open_bracket(self):
        """Goes behind the bracket that follows the last word."""
        self.at += 1
        self.entries[-1][1] = 1
        self.open_entries.append(self.entries[-1])

    def read_ends(self):
        """Reads the brackets behind a part, and the comma behind them; returns whether a part follows."""
        while self.open_entries:
            sign = self.sign()
            if sign == "," and self.open_entries[-1][1] < MOST_PARTS:
                self.at += 1
                self.open_entries[-1][1] += 1
                return True
            if sign != ")":
                self.refuse()
            self.at += 1
            self.open_entries.pop()
        return False

    def read_all(self):
        """Reads the whole text; returns the tree or pattern."""
        goes_on = True
        while goes_on:
            may_open = self.read_symbol()
            if may_open and self.sign() == "(":
                self.open_bracket()
            else:
                goes_on = self.read_ends()
        if self.at < len(self.text):
            self.refuse()
        return tuple([(word, many) for word, many in self.entries])


def read_tree(text):
    """Returns the tree with this text."""
    need(isinstance(text, str), "text")
    return TreeReader(text, False).read_all()


def read_pattern(text):
    """Returns the pattern with this text."""
    need(isinstance(text, str), "text")
    return TreeReader(text, True).read_all()
