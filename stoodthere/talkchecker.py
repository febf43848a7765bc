"""The checker of talks."""

from stoodthere.basics import need
from stoodthere.errors import InvalidPaper, TalkError
from stoodthere.grammarkinds import is_grammar
from stoodthere.learners import Learner
from stoodthere.treekinds import is_tree


def is_want(word, value, want):
    """Whether word and value, which may be any values, are what a learner wants."""
    if word != want[0] or value != want[1]:
        return False
    # True equals 1, but what has it is neither a tree nor a grammar.
    return is_tree(value) if word == "ask" else is_grammar(value)


def tell_entry(learner, entry):
    """Tells learner what an entry of a talk does; returns the word for what is wrong with it, or None."""
    if not isinstance(entry, tuple) or len(entry) != 3:
        return "shape"
    want = learner.wants()
    if want[0] == "done":
        return "behind"
    word, value, answer = entry
    if not is_want(word, value, want):
        return "want"
    try:
        learner.told(answer)
    except TalkError:
        return "answer"
    return None


def lets_talk(book, sparing, thing):
    """Returns whether the learner whose talk thing is has ended; raises InvalidPaper if thing is no talk."""
    need(isinstance(sparing, bool), "sparing")
    if not isinstance(thing, tuple):
        raise InvalidPaper("shape", -1)
    learner = Learner(book, sparing)
    for k, entry in enumerate(thing):
        fault = tell_entry(learner, entry)
        if fault is not None:
            raise InvalidPaper(fault, k)
    return learner.wants()[0] == "done"
