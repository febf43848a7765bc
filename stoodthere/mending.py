"""The tree of a lot that is nearest to a tree."""

from stoodthere.basics import need
from stoodthere.leasttrees import least_trees
from stoodthere.making import rules_by_symbol
from stoodthere.orders import order_key
from stoodthere.pieces import ends_of, part_nodes, whole_of
from stoodthere.treekinds import is_tree


def mend_key(mend):
    """What is least of the mends (price, tree) that are the best ones."""
    return (mend[0], order_key(mend[1]))


def mends_at(least, size, rules, lower):
    """A dict with the best mend of a piece by each name that makes a tree.

    least has the least trees of the names, size is how many symbols the piece has, rules are those of
    its root's symbol, and lower are the dicts for its parts.
    """
    mends = {}
    for name, tree in enumerate(least):
        if tree is not None:
            # Where the roots are the same, some mend by a rule below is better.
            mends[name] = (size + len(tree), tree)
    for result, word, parts in rules:
        rows = [row.get(part) for row, part in zip(lower, parts)]
        if None not in rows:
            mend = (sum([price for price, _ in rows]), whole_of(word, [tree for _, tree in rows]))
            mends[result] = min(mend, mends[result], key=mend_key)
    return mends


def mend_of(driven, tree):
    """Returns the least price of tree and a tree of the lot, and the least of such trees; None if the lot is empty."""
    need(is_tree(tree), "tree")
    least = least_trees(driven)
    by_symbol = rules_by_symbol(driven[2])
    ends = ends_of(tree)
    rows = part_nodes(tree)
    mends = [{} for _ in tree]
    for node in reversed(range(len(tree))):
        lower = [mends[part] for part in rows[node]]
        mends[node] = mends_at(least, ends[node] - node, by_symbol.get(tree[node], []), lower)
    return min([mends[0][start] for start in driven[1] if start in mends[0]], key=mend_key, default=None)
