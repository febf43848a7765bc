"""Which values have the shape of papers of verdicts."""

from stoodthere.grammarkinds import is_grammar
from stoodthere.treekinds import is_tree

# For each verdict, what the values behind it are for.
PAPER_VALUES = {
    "in": ("fence", "joins"),
    "out": ("fence", "wrong", "joins"),
    "open": ("fence", "second"),
    "odds": ("wrong", "joins"),
}


def has_value_shape(thing, value):
    """Whether thing has the shape of such a value."""
    if value == "joins":
        return isinstance(thing, tuple)
    return is_tree(thing) if value == "wrong" else is_grammar(thing)


def is_paper_shape(thing):
    """Returns whether thing has the shape of a paper of a verdict."""
    if not isinstance(thing, tuple) or not thing or not isinstance(thing[0], str):
        return False
    values = PAPER_VALUES.get(thing[0])
    if values is None or len(thing) != len(values) + 1:
        return False
    return all([has_value_shape(part, value) for part, value in zip(thing[1:], values)])
