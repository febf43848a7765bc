"""What one further tree brings."""

from stoodthere.basics import need, with_last
from stoodthere.fulljoinings import closure_grammar
from stoodthere.orders import least_of
from stoodthere.partings import Parting
from stoodthere.piecelists import pieces_of
from stoodthere.pieces import whole_of
from stoodthere.treekinds import is_tree, is_trees


def trees_by_rules(rules, least, piece, seconds):
    """The least trees but piece, by any one of these rules for one pair, and by the rule that makes piece."""
    trees = []
    for _, word, parts in rules:
        rows = [least[part] for part in parts]
        if whole_of(word, rows) != piece:
            trees.append(whole_of(word, rows))
            continue
        # By the rule of piece itself, one part has to be another one, and the second one is enough.
        for at, part in enumerate(parts):
            if seconds[part] is not None:
                trees.append(whole_of(word, rows[:at] + [seconds[part]] + rows[at + 1:]))
    return trees


def second_tree(search, tree):
    """Which tree comes next, in order, of those of the pair of which tree is the least one; or None."""
    pair_by_tree = {search.least[pair]: pair for pair in search.least}
    rules = {}
    for rule in search.pair_rules:
        rules.setdefault(rule[0], []).append(rule)
    seconds = {}
    # All pieces of a least tree are least ones, and parts come ahead of their wholes.
    for piece in pieces_of((tree,)):
        pair = pair_by_tree[piece]
        seconds[pair] = least_of(trees_by_rules(rules[pair], search.least, piece, seconds))
    return seconds[pair_by_tree[tree]]


def brings_of(book, sentences, tree):
    """Returns the least tree but tree that comes into the closure of sentences with it, or None if there is none."""
    need(is_trees(sentences), "sentences")
    need(is_tree(tree), "tree")
    search = Parting(closure_grammar(book, with_last(sentences, tree)), closure_grammar(book, sentences))
    pair = search.next_apart()
    if pair is None:
        return None
    if search.least[pair] != tree:
        return search.least[pair]
    other = search.next_apart()
    # If the second tree is ahead of the least one of that pair, then all that makes it was found ahead of it, too.
    second = second_tree(search, tree)
    return least_of([found for found in (second, search.least.get(other)) if found is not None])
