"""Trimming and numbering the names of grammars."""

from stoodthere.fairness import live_names
from stoodthere.leasttrees import least_trees
from stoodthere.orders import order_key


def renumbered(grammar, kept):
    """The grammar with these names alone, numbered in this sequence; what has others is left out."""
    numbers = {name: number for number, name in enumerate(kept)}
    starts = [numbers[start] for start in grammar[1] if start in numbers]
    rules = []
    for result, word, parts in grammar[2]:
        if result in numbers and all([part in numbers for part in parts]):
            rules.append((numbers[result], word, tuple([numbers[part] for part in parts])))
    return (len(numbers), tuple(sorted(starts)), tuple(sorted(rules)))


def trimmed(grammar):
    """Returns the grammar without the names that make no tree or do not stand in its lot."""
    return renumbered(grammar, sorted(live_names(grammar)))


def plain_of(driven):
    """Returns the plain grammar that comes from the trimmed one."""
    trim = trimmed(driven)
    least = least_trees(trim)
    return renumbered(trim, sorted(range(trim[0]), key=lambda name: order_key(least[name])))


def teaching_number(grammar):
    """Returns the teaching number of the grammar as it is."""
    names, starts, rules = grammar
    return len(rules) - names + len(starts)
