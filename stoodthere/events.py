"""Which values are events and logs."""

from stoodthere.bookkinds import is_book
from stoodthere.treekinds import is_tree

TREE_DEEDS = ("put", "bar", "take", "free")
MOST_EVENTS = 300


def is_event(thing):
    """Returns whether thing is an event."""
    if not isinstance(thing, tuple) or len(thing) != 2:
        return False
    word, value = thing
    if word == "book":
        return is_book(value)
    return word in TREE_DEEDS and is_tree(value)


def is_log(thing):
    """Whether thing is a log: a tuple of at most three hundred events."""
    return isinstance(thing, tuple) and len(thing) <= MOST_EVENTS and all([is_event(event) for event in thing])
