"""Where the names of split grammars stand."""

from stoodthere.basics import need
from stoodthere.grammarkinds import is_grammar
from stoodthere.leastplaces import PlaceMaker
from stoodthere.splits import split_by


def homes_of(book, grammar):
    """Returns for each name of the split grammar a place with fewest symbols at which it makes a piece."""
    need(is_grammar(grammar), "grammar")
    split, _ = split_by(book, grammar)
    homes = PlaceMaker(split).homes()
    return tuple([homes[name] for name in range(split[0])])
