"""Verdicts on trees, and papers of them."""

from stoodthere.basics import need, with_last
from stoodthere.fulljoinings import closure_grammar
from stoodthere.found import grammar_of
from stoodthere.joinlists import joins_of
from stoodthere.making import first_taken, takes
from stoodthere.treekinds import is_tree, is_trees


def judgement(book, standing, barred, tree):
    """The pair of the verdict on tree and, for "odds" and "out", a barred tree that tells why, else None."""
    lot = closure_grammar(book, standing)
    wrong = first_taken(lot, barred)
    if wrong is not None:
        return ("odds", wrong)
    if takes(lot, tree):
        return ("in", None)
    wrong = first_taken(closure_grammar(book, with_last(standing, tree)), barred)
    return ("open", None) if wrong is None else ("out", wrong)


def check_sides(standing, barred):
    """Refuses standing and barred unless they are sentences."""
    need(is_trees(standing), "standing")
    need(is_trees(barred), "barred")


def verdict_of(book, standing, barred, tree):
    """Returns the verdict on tree: "odds", "in", "out" or "open"."""
    check_sides(standing, barred)
    need(is_tree(tree), "tree")
    return judgement(book, standing, barred, tree)[0]


def odds_of(book, standing, barred):
    """Returns the first tree of barred that the closure of standing has, or None."""
    check_sides(standing, barred)
    return first_taken(closure_grammar(book, standing), barred)


def verdict_paper(book, standing, barred, tree):
    """Returns a paper of the verdict on tree."""
    check_sides(standing, barred)
    need(is_tree(tree), "tree")
    verdict, wrong = judgement(book, standing, barred, tree)
    if verdict == "odds":
        return ("odds", wrong, joins_of(book, standing))
    fence = grammar_of(book, standing)
    if verdict == "in":
        return ("in", fence, joins_of(book, standing))
    more = with_last(standing, tree)
    if verdict == "out":
        return ("out", fence, wrong, joins_of(book, more))
    return ("open", fence, grammar_of(book, more))
