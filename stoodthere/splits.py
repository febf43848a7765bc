"""Splitting a grammar by a book."""

from stoodthere.basics import need
from stoodthere.fairness import live_names
from stoodthere.grammarkinds import is_grammar
from stoodthere.kindmakers import KindMaker
from stoodthere.pairsearches import PairSearch
from stoodthere.trims import renumbered


def split_by(book, grammar):
    """The split grammar, and the pairs for its names, without any check."""
    search = PairSearch(grammar, KindMaker(book))
    while search.advance() is not None:
        pass
    pairs = sorted(search.least)
    numbers = {pair: number for number, pair in enumerate(pairs)}
    rules = []
    for result, word, parts in search.pair_rules:
        rules.append((numbers[result], word, tuple([numbers[part] for part in parts])))
    starts = [number for number, pair in enumerate(pairs) if pair[0] in grammar[1]]
    whole = (len(pairs), tuple(starts), tuple(sorted(rules)))
    kept = sorted(live_names(whole))
    return (renumbered(whole, kept), tuple([pairs[number] for number in kept]))


def split_of(book, grammar):
    """Returns the split grammar, and for each of its names the pair of a name of grammar and a kind."""
    need(is_grammar(grammar), "grammar")
    return split_by(book, grammar)
