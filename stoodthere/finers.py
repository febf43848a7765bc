"""Comparing two books."""

from stoodthere.kindlists import kinds_over


def finer_pair(book, other, symbols):
    """Returns None if book is finer than other over symbols, else the least pair that shows it is not."""
    many = len(book)
    least_by_kind = {}
    # A least pair consists of least trees of kinds by both books. Of these no two are of one kind
    # by both, so the first two that are of one kind by book are of unlike kinds by other.
    for kind, tree in kinds_over(book + other, symbols):
        if kind[:many] in least_by_kind:
            return (least_by_kind[kind[:many]], tree)
        least_by_kind[kind[:many]] = tree
    return None
