"""The checker of papers of verdicts."""

from stoodthere.basics import need, with_last
from stoodthere.errors import InvalidPaper
from stoodthere.fencechecker import fault_of_fence
from stoodthere.joinchecker import joining_by
from stoodthere.making import takes
from stoodthere.treekinds import is_tree, is_trees
from stoodthere.verdictkinds import PAPER_VALUES, is_paper_shape


def do_lead(book, given, joins, tree):
    """Whether joins are joins of given and lead to tree."""
    try:
        joining = joining_by(book, given, joins)
    except InvalidPaper:
        return False
    return takes(joining.class_grammar(), tree)


def is_fence(book, inside, outside, thing):
    """Whether thing is a fence that takes all of inside and none of outside."""
    return fault_of_fence(book, inside, outside, thing) is None


class PaperCheck:
    """A paper, and what its verdict is on."""

    def __init__(self, book, standing, barred, tree, thing):
        self.book = book
        self.kept = standing
        self.bars = barred
        self.tree = tree
        self.thing = thing

    def fault_of_value(self, k, value):
        """The word for what is wrong with value k of the paper, or None."""
        told = self.thing[k]
        with_tree = with_last(self.kept, self.tree)
        if value == "fence":
            outside = with_last(self.bars, self.tree) if self.thing[0] == "open" else self.bars
            return None if is_fence(self.book, self.kept, outside, told) else "fence"
        if value == "second":
            return None if is_fence(self.book, with_tree, self.bars, told) else "fence"
        if value == "wrong":
            return None if told in self.bars else "barred"
        given = with_tree if self.thing[0] == "out" else self.kept
        # The joins stand behind the tree that they are to lead to, but for "in".
        tree = self.tree if self.thing[0] == "in" else self.thing[k - 1]
        return None if do_lead(self.book, given, told, tree) else "joins"


def lets_verdict(book, standing, barred, tree, thing):
    """Returns the verdict of the paper; raises InvalidPaper if thing is no paper of the verdict on tree."""
    need(is_trees(standing), "standing")
    need(is_trees(barred), "barred")
    need(is_tree(tree), "tree")
    if not is_paper_shape(thing):
        raise InvalidPaper("shape", -1)
    check = PaperCheck(book, standing, barred, tree, thing)
    for k, value in enumerate(PAPER_VALUES[thing[0]], 1):
        fault = check.fault_of_value(k, value)
        if fault is not None:
            raise InvalidPaper(fault, k)
    return thing[0]
