"""The closure of two lots together."""

from stoodthere.basics import need
from stoodthere.closings import closure_form
from stoodthere.grammarkinds import is_grammar


def united(book, grammar, other):
    """Returns the form of the closure of all that the lot of grammar, that of other, or both have."""
    need(is_grammar(grammar), "grammar")
    need(is_grammar(other), "other")
    return closure_form(book, [grammar, other])
