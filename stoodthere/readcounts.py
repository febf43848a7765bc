"""How many trees of a lot have given leaves."""

from stoodthere.basics import is_number, need
from stoodthere.forests import LeafForests
from stoodthere.readings import are_leaves


def reading_count(driven, words, nodes):
    """Returns how many trees with so many symbols the lot has whose leaves are words."""
    need(are_leaves(words), "words")
    need(is_number(nodes), "nodes")
    return LeafForests(driven, words).count_of_tops(nodes)


def reading_total(driven, words):
    """Returns how many trees the lot has whose leaves are words, or None if they are endlessly many."""
    need(are_leaves(words), "words")
    return LeafForests(driven, words).total_of_tops()
