"""The checker of fences."""

from stoodthere.basics import need
from stoodthere.errors import InvalidPaper
from stoodthere.fairness import first_breach
from stoodthere.grammarkinds import is_grammar
from stoodthere.making import takes
from stoodthere.treekinds import is_trees


def fault_of_fence(book, inside, outside, thing):
    """What is wrong with thing as a fence between these trees: None, or a word and a number."""
    if not is_grammar(thing):
        return ("shape", -1)
    breach = first_breach(book, thing)
    if breach is not None:
        return breach
    for k, tree in enumerate(inside):
        if not takes(thing, tree):
            return ("inside", k)
    for k, tree in enumerate(outside):
        if takes(thing, tree):
            return ("outside", k)
    return None


def lets_fence(book, inside, outside, thing):
    """Returns how many names the fence has; raises InvalidPaper if thing is no fence between these trees."""
    need(is_trees(inside), "inside")
    need(is_trees(outside), "outside")
    fault = fault_of_fence(book, inside, outside, thing)
    if fault is not None:
        word, at = fault
        raise InvalidPaper(word, at)
    return thing[0]
