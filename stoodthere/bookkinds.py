"""Which values are simple ones and books of kinds."""

from stoodthere.basics import ascends, is_number_to
from stoodthere.treekinds import is_word

MOST_DEPTH = 60
MOST_KIND = 99
MOST_NUMBERS = 4


def is_kind_number(thing):
    """Whether thing is a number that may stand in a row, or as other."""
    return is_number_to(thing, MOST_KIND)


def is_group_row(thing):
    """Whether thing is a row of groups."""
    if not isinstance(thing, tuple) or len(thing) != 2:
        return False
    word, number = thing
    return is_word(word) and is_kind_number(number)


def is_table_row(thing):
    """Whether thing is a row of a table."""
    if not isinstance(thing, tuple) or len(thing) != 3:
        return False
    word, numbers, number = thing
    if not is_word(word) or not is_kind_number(number):
        return False
    if not isinstance(numbers, tuple) or len(numbers) > MOST_NUMBERS:
        return False
    return all([is_kind_number(part) for part in numbers])


def has_simple_shape(thing):
    """Whether thing has as many values as its first one, a word for simple ones, wants."""
    if not isinstance(thing, tuple):
        return False
    if len(thing) == 2:
        return thing[0] == "depth"
    return len(thing) == 3 and thing[0] in ("groups", "table")


def are_rows(thing, word):
    """Whether thing is a tuple of rows, in whatever sequence, for "groups" or for "table"."""
    if not isinstance(thing, tuple):
        return False
    if word == "groups":
        return all([is_group_row(row) for row in thing])
    return all([is_table_row(row) for row in thing])


def fault_of_simple(thing):
    """What is wrong with thing as a simple one: None, or the word that a checker tells."""
    if not has_simple_shape(thing):
        return "shape"
    if thing[0] == "depth":
        return None if is_number_to(thing[1], MOST_DEPTH) else "depth"
    word, rows, other = thing
    if not are_rows(rows, word):
        return "row"
    if not ascends([row[:-1] for row in rows]):
        return "sequence"
    return None if is_kind_number(other) else "other"


def is_simple(thing):
    """Returns whether thing is a simple one."""
    return fault_of_simple(thing) is None


def is_book(thing):
    """Returns whether thing is a book."""
    return isinstance(thing, tuple) and len(thing) > 0 and all([is_simple(simple) for simple in thing])
