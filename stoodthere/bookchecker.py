"""The checker of books."""

from stoodthere.bookkinds import fault_of_simple
from stoodthere.errors import InvalidPaper


def lets_book(thing):
    """Returns how many simple ones the book has; raises InvalidPaper if thing is no book."""
    if not isinstance(thing, tuple) or not thing:
        raise InvalidPaper("shape", -1)
    for k, simple in enumerate(thing):
        fault = fault_of_simple(simple)
        if fault is not None:
            raise InvalidPaper(fault, k)
    return len(thing)
