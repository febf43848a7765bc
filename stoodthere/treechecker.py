"""The checker of trees."""

from stoodthere.errors import InvalidPaper
from stoodthere.treekinds import fault_of


def lets_tree(thing):
    """Returns how many symbols the tree has; raises InvalidPaper if thing is no tree."""
    fault = fault_of(thing, False)
    if fault is not None:
        word, at = fault
        raise InvalidPaper(word, at)
    return len(thing)
