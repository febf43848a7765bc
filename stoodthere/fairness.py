"""Trim, driven, plain and fair grammars."""

from stoodthere.basics import need
from stoodthere.grammarkinds import is_grammar
from stoodthere.kindmakers import KindMaker
from stoodthere.leasttrees import least_trees
from stoodthere.orders import order_key


def making_names(grammar):
    """A dict that has the names that make a tree."""
    # Dicts, as a value that is checked may have any number of names.
    users = {}
    missing = []
    waiting = []
    for k, (result, _, parts) in enumerate(grammar[2]):
        different = sorted(set(parts))
        missing.append(len(different))
        for part in different:
            users.setdefault(part, []).append(k)
        if not parts:
            waiting.append(result)
    made = {}
    while waiting:
        name = waiting.pop()
        if name in made:
            continue
        made[name] = True
        for k in users.get(name, []):
            missing[k] -= 1
            if missing[k] == 0:
                waiting.append(grammar[2][k][0])
    return made


def live_names(grammar):
    """A dict that has the names that make a tree and stand in the lot."""
    _, starts, rules = grammar
    made = making_names(grammar)
    below = {name: [] for name in made}
    for result, _, parts in rules:
        if all([part in made for part in parts]):
            below[result].extend(parts)
    waiting = [start for start in starts if start in made]
    live = {}
    while waiting:
        name = waiting.pop()
        if name not in live:
            live[name] = True
            waiting.extend(below[name])
    return live


def repeated_rule(grammar):
    """The number of the first rule with word and parts of an earlier one, or None."""
    known = {}
    for k, (_, word, parts) in enumerate(grammar[2]):
        if (word, parts) in known:
            return k
        known[(word, parts)] = True
    return None


def is_driven(grammar):
    """Returns whether grammar is driven."""
    return repeated_rule(grammar) is None


def is_trim(grammar):
    """Returns whether grammar is trim."""
    return len(live_names(grammar)) == grammar[0]


def is_plain(grammar):
    """Returns whether grammar is plain."""
    if not is_trim(grammar) or not is_driven(grammar):
        return False
    keys = [order_key(tree) for tree in least_trees(grammar)]
    return keys == sorted(keys)


def kinds_of_names(maker, grammar):
    """A list with the kind of the least tree of each name, None if there is none."""
    return [None if tree is None else maker.kind_in(tree) for tree in least_trees(grammar)]


def name_kinds(book, grammar):
    """Returns a tuple with the kind of the least tree of each name, None if there is none."""
    need(is_grammar(grammar), "grammar")
    return tuple(kinds_of_names(KindMaker(book), grammar))


def unlike_rule(maker, grammar, kinds):
    """The number of the first rule that makes a tree of another kind than its result has, or None."""
    for k, (result, word, parts) in enumerate(grammar[2]):
        if maker.kind_by(word, [kinds[part] for part in parts]) != kinds[result]:
            return k
    return None


def unturned_pair(grammar, kinds):
    """The first rule that differs from an earlier one as no turned grammar lets it, or None.

    Told are the numbers of the earlier rule, of this one, and of the part in which they differ.
    """
    known = {}
    for k, (result, word, parts) in enumerate(grammar[2]):
        for at, part in enumerate(parts):
            # Rules that agree in this key differ in the part left out alone, as no rule stands twice.
            key = (result, word, parts[:at], parts[at + 1:], kinds[part])
            if key in known:
                return (known[key], k, at)
            known[key] = k
    return None


def unsingle_pair(grammar, kinds):
    """The numbers of the earlier start and of the first one of the kind of an earlier one, or None."""
    known = {}
    for k, start in enumerate(grammar[1]):
        if kinds[start] in known:
            return (known[kinds[start]], k)
        known[kinds[start]] = k
    return None


def first_breach(book, grammar):
    """The first pair that tells why grammar is not fair for book, or None."""
    live = live_names(grammar)
    for name in range(grammar[0]):
        if name not in live:
            return ("trim", name)
    repeated = repeated_rule(grammar)
    if repeated is not None:
        return ("driven", repeated)
    maker = KindMaker(book)
    kinds = kinds_of_names(maker, grammar)
    unlike = unlike_rule(maker, grammar, kinds)
    if unlike is not None:
        return ("kinded", unlike)
    unturned = unturned_pair(grammar, kinds)
    if unturned is not None:
        return ("turned", unturned[1])
    unsingle = unsingle_pair(grammar, kinds)
    return None if unsingle is None else ("single", unsingle[1])


def breach_of(book, grammar):
    """Returns None if grammar is fair for book, else a pair that tells why it is not."""
    need(is_grammar(grammar), "grammar")
    return first_breach(book, grammar)


def is_fair(book, grammar):
    """Returns whether grammar is fair for book."""
    need(is_grammar(grammar), "grammar")
    return first_breach(book, grammar) is None


def is_driven_grammar(thing):
    """Whether thing, which may be any value, is a driven grammar."""
    return is_grammar(thing) and is_driven(thing)


def is_fair_grammar(book, thing):
    """Whether thing, which may be any value, is a grammar that is fair for book."""
    return is_grammar(thing) and first_breach(book, thing) is None
