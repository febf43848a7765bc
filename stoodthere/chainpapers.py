"""Chains of exchanges as papers that the closure of trees has a tree."""

from stoodthere.basics import is_number, need
from stoodthere.chainmakers import made_chain
from stoodthere.fulljoinings import full_joining
from stoodthere.treekinds import is_tree, is_trees


def chain_paper(book, given, tree):
    """Returns a chain from given that ends with tree, or None if the closure of given does not have it."""
    need(is_trees(given), "given")
    need(is_tree(tree), "tree")
    return made_chain(book, given, tree)


def chain_bound(book, given, many):
    """Returns how many lines a chain to a tree of so many symbols needs at most."""
    need(is_trees(given), "given")
    need(is_number(many), "many")
    joining = full_joining(book, given)
    joins = len(joining.steps)
    rules = len(joining.class_grammar()[2])
    return len(given) + 2 * joins * (joins - 1) + (5 * rules + 1) * (joins + 1) + many


def joins_count(book, given):
    """Returns how many joins joins_of has."""
    need(is_trees(given), "given")
    return len(full_joining(book, given).steps)
