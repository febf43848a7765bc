"""What teaches a grammar, and how much a learner may have to ask."""

from stoodthere.basics import need
from stoodthere.fairness import is_fair_grammar, kinds_of_names
from stoodthere.found import grammar_of
from stoodthere.kindmakers import KindMaker
from stoodthere.making import names_at_nodes, takes
from stoodthere.pieces import part_nodes
from stoodthere.treekinds import is_trees
from stoodthere.trims import plain_of


def is_taught(book, sentences, fair):
    """Returns whether the closure of sentences is the lot of fair."""
    need(is_trees(sentences), "sentences")
    need(is_fair_grammar(book, fair), "fair")
    return grammar_of(book, sentences) == plain_of(fair)


def rules_used(driven, tree):
    """The list of the rules that make the pieces of tree, each of which some name makes."""
    names = [list(made)[0] for made in names_at_nodes(driven[2], tree)]
    rows = part_nodes(tree)
    return [(names[node], tree[node][0], tuple([names[part] for part in rows[node]])) for node in range(len(tree))]


def unused_rules(driven, sentences):
    """Returns the ascending numbers of the rules that none of sentences uses."""
    need(is_trees(sentences) and all([takes(driven, tree) for tree in sentences]), "sentences")
    used = {rule: True for tree in sentences for rule in rules_used(driven, tree)}
    return tuple([k for k, rule in enumerate(driven[2]) if rule not in used])


def question_bound(book, fair):
    """Returns how many questions a learner asks at most until it has fair."""
    need(is_fair_grammar(book, fair), "fair")
    kinds = kinds_of_names(KindMaker(book), fair)
    names = {}
    rules = {}
    for kind in kinds:
        names[kind] = names.get(kind, 0) + 1
    for result, _, _ in fair[2]:
        rules[kinds[result]] = rules.get(kinds[result], 0) + 1
    total = 0
    for kind, many in names.items():
        total += many * (many - 1) // 2 + (rules[kind] - many) * many
    return total
