"""Comparing two books."""

from stoodthere.basics import need
from stoodthere.kindlists import kinds_over
from stoodthere.treekinds import are_symbols


def finer_pair(book, other, symbols):
    """Returns None if book is finer than other over symbols, else the least pair that shows it is not."""
    need(are_symbols(symbols), "symbols")
    many = len(book)
    told = [(kind[:many], kind[many:], tree) for kind, tree in kinds_over(book + other, symbols)]
    for at, (kind, other_kind, tree) in enumerate(told):
        for ahead_kind, ahead_other_kind, ahead in told[:at]:
            if ahead_kind == kind and ahead_other_kind != other_kind:
                return (ahead, tree)
    return None
