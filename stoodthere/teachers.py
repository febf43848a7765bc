"""A teacher, which answers what a learner wants by the lot of a fair grammar."""

from stoodthere.basics import need
from stoodthere.fairness import is_fair_grammar
from stoodthere.making import takes
from stoodthere.partings import parting_of
from stoodthere.treekinds import are_trees


class Teacher:
    """A book, a grammar that is fair for it, and the trees that are told first."""

    def __init__(self, book, fair, order):
        need(is_fair_grammar(book, fair), "fair")
        need(are_trees(order), "order")
        self.book = book
        self.fair = fair
        self.order = order

    def reply(self, want):
        """Returns the answer to what is wanted, a pair with "ask" or "propose" first."""
        word, value = want
        if word == "ask":
            return takes(self.fair, value)
        for tree in self.order:
            if takes(self.fair, tree) and not takes(value, tree):
                return tree
        return parting_of(self.fair, value)
