"""Numbers of the trees of a lot, taken in order."""

from stoodthere.basics import is_number, need
from stoodthere.beginnings import Beginning
from stoodthere.forests import NameForests
from stoodthere.making import takes
from stoodthere.treekinds import is_tree


def many_ahead(driven, tree):
    """How many trees of the lot are ahead of tree."""
    forests = NameForests(driven)
    ahead = sum([forests.count_of_tops(size) for size in range(len(tree))])
    symbols = sorted({(word, len(parts)) for _, word, parts in driven[2]})
    beginning = Beginning(driven, forests, len(tree))
    for symbol in tree:
        ahead += sum([beginning.many_with(other) for other in symbols if other < symbol])
        if beginning.many_with(symbol) == 0:
            break
        beginning.go_on(symbol)
    return ahead


def tree_of_size(driven, forests, size, number):
    """The tree with this number among those of the lot with so many symbols; there has to be one."""
    symbols = sorted({(word, len(parts)) for _, word, parts in driven[2]})
    beginning = Beginning(driven, forests, size)
    tree = []
    while len(tree) < size:
        for symbol in symbols:
            many = beginning.many_with(symbol)
            if number < many:
                break
            number -= many
        tree.append(symbol)
        beginning.go_on(symbol)
    return tuple(tree)


def tree_with_number(driven, number):
    """The tree of the lot with this number, None if the lot does not have so many."""
    forests = NameForests(driven)
    total = forests.total_of_tops()
    if total is not None and number >= total:
        return None
    size = 0
    while number >= forests.count_of_tops(size):
        number -= forests.count_of_tops(size)
        size += 1
    return tree_of_size(driven, forests, size, number)


def number_of(driven, tree):
    """Returns the number of tree, or None if the lot does not have it."""
    need(is_tree(tree), "tree")
    return many_ahead(driven, tree) if takes(driven, tree) else None


def tree_at(driven, number):
    """Returns the tree of the lot with this number, or None if the lot does not have so many trees."""
    need(is_number(number), "number")
    return tree_with_number(driven, number)


def ahead_count(driven, tree):
    """Returns how many trees of the lot are ahead of tree."""
    need(is_tree(tree), "tree")
    return many_ahead(driven, tree)


def next_tree(driven, tree):
    """Returns the least tree of the lot that tree is ahead of, or None if there is none."""
    need(is_tree(tree), "tree")
    own = 1 if takes(driven, tree) else 0
    return tree_with_number(driven, many_ahead(driven, tree) + own)
