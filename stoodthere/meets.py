"""What two lots have in common."""

from stoodthere.basics import need
from stoodthere.fairness import is_driven_grammar
from stoodthere.making import rules_by_symbol
from stoodthere.trims import plain_of


def pairs_of_rules(driven, other):
    """For each rule of driven and each one of other with its symbol, a rule between pairs of names."""
    rows = rules_by_symbol(other[2])
    rules = []
    for result, word, parts in driven[2]:
        for other_result, _, other_parts in rows.get((word, len(parts)), []):
            rules.append(((result, other_result), word, list(zip(parts, other_parts))))
    return rules


def met(driven, other):
    """Returns the plain grammar whose lot is what the lots of driven and of other have in common."""
    need(is_driven_grammar(other), "other")
    numbers = {}
    rules = []
    for result, word, pairs in pairs_of_rules(driven, other):
        parts = tuple([numbers.setdefault(pair, len(numbers)) for pair in pairs])
        rules.append((numbers.setdefault(result, len(numbers)), word, parts))
    starts = [numbers[pair] for pair in numbers if pair[0] in driven[1] and pair[1] in other[1]]
    return plain_of((len(numbers), tuple(sorted(starts)), tuple(sorted(rules))))
