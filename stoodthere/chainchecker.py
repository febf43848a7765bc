"""The checker of chains of exchanges."""

from stoodthere.basics import is_number, need
from stoodthere.errors import InvalidPaper
from stoodthere.exchanges import has_same_kind, has_same_piece, has_same_place, put_over
from stoodthere.kindmakers import KindMaker
from stoodthere.treekinds import is_tree, is_trees


def is_given_line(line):
    """Whether line is a pair with "given" first."""
    return isinstance(line, tuple) and len(line) == 2 and line[0] == "given"


def is_put_line(line):
    """Whether line is a tuple of "put" and five numbers."""
    if not isinstance(line, tuple) or len(line) != 6 or line[0] != "put":
        return False
    return all([is_number(number) for number in line[1:]])


def fault_of_put(maker, line, trees):
    """The word for what is wrong with a line of "put" behind lines with these trees, or None."""
    _, base, node, one, place, two = line
    if max(base, one, two) >= len(trees):
        return "line"
    if node >= len(trees[base]) or place >= len(trees[one]):
        return "node"
    if not has_same_place(trees[one], trees[two], place):
        return "place"
    if not has_same_piece(trees[base], node, trees[one], place):
        return "piece"
    if not has_same_kind(maker, trees[one], trees[two], place):
        return "kind"
    return None


def fault_of_line(maker, given, line, trees):
    """The word for what is wrong with a line behind lines with these trees, or None."""
    if is_given_line(line):
        tree = line[1]
        return None if is_tree(tree) and tree in given else "given"
    if is_put_line(line):
        return fault_of_put(maker, line, trees)
    return "shape"


def tree_of_line(line, trees):
    """The tree of a line without fault behind lines with these trees."""
    if line[0] == "given":
        return line[1]
    _, base, node, one, place, two = line
    return put_over(trees[base], node, trees[two], place)


def lets_chain(book, given, thing):
    """Returns the tuple of the trees of the chain's lines; raises InvalidPaper if thing is no chain."""
    need(is_trees(given), "given")
    if not isinstance(thing, tuple) or not thing:
        raise InvalidPaper("shape", -1)
    maker = KindMaker(book)
    trees = []
    for k, line in enumerate(thing):
        fault = fault_of_line(maker, given, line, trees)
        if fault is not None:
            raise InvalidPaper(fault, k)
        trees.append(tree_of_line(line, trees))
    return tuple(trees)
