"""The one grammar of a lot that tells pieces apart by their kinds and their places alone."""

from stoodthere.basics import need
from stoodthere.grammarkinds import is_grammar
from stoodthere.setforms import by_sets
from stoodthere.splits import split_by
from stoodthere.trims import plain_of


def rows_of_uses(driven):
    """For each name the ascending list of its uses: pairs of a number for the rest of the rule and the result."""
    numbers = {}
    rows = [[] for _ in range(driven[0])]
    for result, word, parts in driven[2]:
        for at, part in enumerate(parts):
            rest = (word, parts[:at], parts[at + 1:])
            rows[part].append((numbers.setdefault(rest, len(numbers)), result))
    return [sorted(row) for row in rows]


def numbered(keys):
    """For each key, in sequence, a number; the same one for equal keys."""
    numbers = {}
    return [numbers.setdefault(key, len(numbers)) for key in keys]


def refined(driven, keys):
    """For each name the number of its class: of one class are those with one key that stand at the same places."""
    rows = rows_of_uses(driven)
    classes = numbered([(key, name in driven[1]) for name, key in enumerate(keys)])
    many_before = 0
    # Classes are only parted, never joined: as many as before are the same as before.
    while max(classes, default=-1) + 1 > many_before:
        many_before = max(classes) + 1
        marks = []
        for name, row in enumerate(rows):
            marks.append((classes[name], tuple([(rest, classes[result]) for rest, result in row])))
        classes = numbered(marks)
    return classes


def canon_by(book, grammar):
    """The grammar that canon_of tells, without any check."""
    split, pairs = split_by(book, by_sets(grammar))
    classes = refined(split, [kind for _, kind in pairs])
    rules = {}
    for result, word, parts in split[2]:
        rules[(classes[result], word, tuple([classes[part] for part in parts]))] = True
    starts = sorted(set([classes[start] for start in split[1]]))
    return plain_of((max(classes, default=-1) + 1, tuple(starts), tuple(sorted(rules))))


def canon_of(book, grammar):
    """Returns the plain grammar of the lot in which one name makes pieces of one kind that stand at the same places."""
    need(is_grammar(grammar), "grammar")
    return canon_by(book, grammar)
