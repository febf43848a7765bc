"""How bold the rule is, by one depth after the other."""

from stoodthere.basics import is_number, need
from stoodthere.books import depth_book
from stoodthere.found import grammar_of
from stoodthere.partings import parting_of
from stoodthere.piecelists import levels_of
from stoodthere.treekinds import is_trees
from stoodthere.verdicts import odds_of


def depths_for(sentences):
    """The list of the depths from 0 to the most levels of a sentence; behind these nothing changes."""
    return list(range(max([levels_of(tree) for tree in sentences], default=0) + 1))


def boldest_of(standing, barred):
    """Returns the least depth by which something fits, or None if there is none."""
    need(is_trees(barred), "barred")
    for depth in depths_for(standing):
        if odds_of(depth_book(depth), standing, barred) is None:
            return depth
    return None


def doubt_of(sentences, depth):
    """Returns the least tree of the closure by depth that the one by the next depth lacks, or None."""
    need(is_number(depth), "depth")
    return parting_of(grammar_of(depth_book(depth), sentences), grammar_of(depth_book(depth + 1), sentences))


def steps_of(sentences):
    """Returns the found grammars of sentences by each depth from 0 to the most levels of a sentence."""
    return tuple([grammar_of(depth_book(depth), sentences) for depth in depths_for(sentences)])
