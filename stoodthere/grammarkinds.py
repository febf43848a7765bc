"""Which values are grammars."""

from stoodthere.basics import ascends, is_number
from stoodthere.treekinds import MOST_PARTS, SILENT, is_word


def is_name(thing, names):
    """Whether thing is one of so many names."""
    return is_number(thing) and thing < names


def are_names(thing, names):
    """Whether thing is a tuple of some of so many names, in whatever sequence."""
    return isinstance(thing, tuple) and all([is_name(name, names) for name in thing])


def is_rule(thing, names):
    """Whether thing is a rule with so many names."""
    if not isinstance(thing, tuple) or len(thing) != 3:
        return False
    result, word, parts = thing
    if not is_name(result, names) or not is_word(word) or not are_names(parts, names):
        return False
    return len(parts) <= MOST_PARTS and (word != SILENT or not parts)


def is_grammar(thing):
    """Returns whether thing is a grammar."""
    if not isinstance(thing, tuple) or len(thing) != 3:
        return False
    names, starts, rules = thing
    if not is_number(names) or not are_names(starts, names) or not isinstance(rules, tuple):
        return False
    return all([is_rule(rule, names) for rule in rules]) and ascends(starts) and ascends(rules)
