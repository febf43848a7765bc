"""How any two lots part."""

from stoodthere.basics import need
from stoodthere.grammarkinds import is_grammar
from stoodthere.partings import lies_within, parting_of
from stoodthere.setforms import by_sets


def outside_of(driven, grammar):
    """Returns the least tree of the lot of driven that the lot of grammar does not have, or None."""
    need(is_grammar(grammar), "grammar")
    return parting_of(driven, by_sets(grammar))


def is_same_lot(grammar, other):
    """Returns whether the two lots are the same."""
    need(is_grammar(other), "other")
    one, two = by_sets(grammar), by_sets(other)
    return lies_within(one, two) and lies_within(two, one)
