"""The checker of joins."""

from stoodthere.basics import need
from stoodthere.errors import InvalidPaper, NotUsable
from stoodthere.joinings import Joining
from stoodthere.treekinds import is_trees


def joining_by(book, given, thing):
    """The pieces of given, joined by thing; raises InvalidPaper if these are no joins."""
    if not isinstance(thing, tuple):
        raise InvalidPaper("shape", -1)
    joining = Joining(book, given)
    for k, step in enumerate(thing):
        fault = joining.make_join(step)
        if fault is not None:
            raise InvalidPaper(fault, k)
    return joining


def usable_joining(book, given, joins):
    """The pieces of given, joined by joins; refuses the parameter joins if these are none."""
    try:
        return joining_by(book, given, joins)
    except InvalidPaper:
        raise NotUsable("joins", -1) from None


def lets_joins(book, given, thing):
    """Returns the classes by these joins; raises InvalidPaper if thing is no joins of given."""
    need(is_trees(given), "given")
    return joining_by(book, given, thing).piece_classes()
