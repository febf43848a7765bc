"""How the lots of two driven grammars part."""

from stoodthere.basics import need
from stoodthere.fairness import is_driven_grammar
from stoodthere.pairsearches import NameMaker, PairSearch


class Parting(PairSearch):
    """Finds, lesser trees first, what the lot of a grammar has and that of a driven one has not."""

    def __init__(self, grammar, driven):
        PairSearch.__init__(self, grammar, NameMaker(driven))
        self.inner = grammar[1]
        self.outer = driven[1]

    def next_apart(self):
        """The next pair whose trees are in the first lot and not in the second one, or None."""
        pair = self.advance()
        while pair is not None and (pair[0] not in self.inner or pair[1] in self.outer):
            pair = self.advance()
        return pair


def parting_of(driven, other):
    """Returns the least tree of the lot of driven that is not in that of other, or None if there is none."""
    need(is_driven_grammar(other), "other")
    search = Parting(driven, other)
    pair = search.next_apart()
    return None if pair is None else search.least[pair]


def lies_within(driven, other):
    """Returns whether the lot of driven lies within that of other."""
    return parting_of(driven, other) is None
