"""Reading a line of a text field by field."""

from stoodthere.errors import InvalidText
from stoodthere.treereadings import read_tree

DIGITS = "0123456789"


def plain_number_in(field):
    """The number that a field tells, or None if it tells none."""
    if field == "" or not all([sign in DIGITS for sign in field]):
        return None
    return None if field[0] == "0" and field != "0" else int(field)


def number_in(field, most):
    """The number that a field tells, or None if it tells none of at most most."""
    number = plain_number_in(field)
    return number if number is not None and number <= most else None


def tree_in(field):
    """The tree that a field tells, or None if it tells none."""
    try:
        return read_tree(field)
    except InvalidText:
        return None


class FieldReader:
    """Reads the fields of one line, one after the other."""

    def __init__(self, line, text):
        self.line = line
        self.fields = text.split(" ")
        self.at = 0

    def refuse(self):
        """Tells that the next field cannot stand there, or that one is missing."""
        raise InvalidText(self.line, self.at)

    def is_at_end(self):
        """Whether all fields are read."""
        return self.at == len(self.fields)

    def seen(self):
        """The next field, which is not read yet; there has to be one."""
        if self.is_at_end():
            self.refuse()
        return self.fields[self.at]

    def read_sign(self, sign):
        """Reads a field that has to be this sign."""
        if self.seen() != sign:
            self.refuse()
        self.at += 1

    def read_number(self, most):
        """Reads a field that is a number of at most most."""
        number = number_in(self.seen(), most)
        if number is None:
            self.refuse()
        self.at += 1
        return number

    def read_shown(self):
        """Reads a field that is the text of a tree; returns the tree."""
        tree = tree_in(self.seen())
        if tree is None:
            self.refuse()
        self.at += 1
        return tree

    def read_end(self):
        """Sees to it that no field is left."""
        if not self.is_at_end():
            self.refuse()
