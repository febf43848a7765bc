"""How many trees a lot has."""

from stoodthere.basics import is_number, need
from stoodthere.forests import NameForests


def count_of(driven, nodes):
    """Returns how many trees with so many symbols the lot has."""
    need(is_number(nodes), "nodes")
    return NameForests(driven).count_of_tops(nodes)


def counts_to(driven, most):
    """Returns how many trees the lot has with each number of symbols from 0 to most."""
    need(is_number(most), "most")
    forests = NameForests(driven)
    return tuple([forests.count_of_tops(nodes) for nodes in range(most + 1)])


def lot_size(driven):
    """Returns how many trees the lot has, or None if it is endless."""
    return NameForests(driven).total_of_tops()
