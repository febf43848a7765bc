"""Few standing trees that quarrel with the barred ones."""

from stoodthere.fulljoinings import closure_grammar
from stoodthere.making import first_taken
from stoodthere.verdicts import check_sides


def quarrel_of(book, standing, barred):
    """Returns None if something fits, else the pair of few standing trees and a barred one that their closure has."""
    check_sides(standing, barred)
    wrong = first_taken(closure_grammar(book, standing), barred)
    if wrong is None:
        return None
    kept = standing
    for tree in reversed(standing):
        others = tuple([other for other in kept if other != tree])
        found = first_taken(closure_grammar(book, others), barred)
        if found is not None:
            kept = others
            wrong = found
    return (kept, wrong)
