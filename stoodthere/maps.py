"""Maps of names that tell that one lot lies within another."""

from stoodthere.basics import need
from stoodthere.fairness import is_fair_grammar
from stoodthere.leasttrees import least_trees
from stoodthere.runs import name_of


def within_map(book, fair, other):
    """Returns the map from the names of fair to those of other, or None if the one lot is not within the other."""
    need(is_fair_grammar(book, fair), "fair")
    need(is_fair_grammar(book, other), "other")
    # A name can only become the one that makes its least tree, too.
    names = tuple([name_of(other, tree) for tree in least_trees(fair)])
    starts = {start: True for start in other[1]}
    rules = {rule: True for rule in other[2]}
    if not all([names[start] in starts for start in fair[1]]):
        return None
    for result, word, parts in fair[2]:
        if (names[result], word, tuple([names[part] for part in parts])) not in rules:
            return None
    return names
