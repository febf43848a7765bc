"""Trees of a lot with given leaves."""

from stoodthere.basics import need
from stoodthere.forests import LeafForests
from stoodthere.orders import least_of
from stoodthere.treekinds import SILENT, is_word


def are_leaves(thing):
    """Whether thing is a tuple of words, none of them silent."""
    return isinstance(thing, tuple) and all([is_word(word) and word != SILENT for word in thing])


def least_reading(driven, words):
    """Returns the least tree of the lot whose leaves are words, or None if there is none."""
    need(are_leaves(words), "words")
    forests = LeafForests(driven, words)
    least = forests.least_forests()
    return least_of([least[top] for top in forests.tops if top in least])
