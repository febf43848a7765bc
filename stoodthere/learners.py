"""A learner, which proposes grammars and asks about trees."""

from stoodthere.basics import need, with_last
from stoodthere.errors import AtOdds, Ended, NotAsked, Taken
from stoodthere.fulljoinings import closure_grammar
from stoodthere.holdings import Holding, Walk
from stoodthere.making import first_taken, takes
from stoodthere.treekinds import is_tree


class Learner:
    """A book, what was answered so far, and what the learner makes of it."""

    def __init__(self, book, sparing):
        need(isinstance(sparing, bool), "sparing")
        self.book = book
        self.is_sparing = sparing
        self.holding = Holding(book)
        # The tree that is gone through, None between two; and what is wanted.
        self.walk = None
        self.want = ("propose", self.holding.proposal())
        self.answers = []
        # The told trees and yeses, each once, with the grammar of their closure; and the noes, each once.
        self.right_trees = ()
        self.lot = closure_grammar(book, ())
        self.wrong_trees = ()

    def wants(self):
        """Returns what the learner wants: a pair with "propose", "ask" or "done" first."""
        return self.want

    def check_sort(self, answer):
        """Refuses an answer that is not of the sort that is wanted, or is a tree that the proposal has."""
        word, value = self.want
        if word == "done":
            raise Ended(answer)
        if word == "ask" and not isinstance(answer, bool):
            raise NotAsked(answer)
        if word == "propose" and answer is not None:
            if not is_tree(answer):
                raise NotAsked(answer)
            if takes(value, answer):
                raise Taken(answer)

    def add_right(self, tree, answer):
        """Adds a tree that is right, by this answer, which is refused if nothing closed fits it."""
        trees = with_last(self.right_trees, tree)
        lot = closure_grammar(self.book, trees)
        if first_taken(lot, self.wrong_trees) is not None:
            raise AtOdds(answer)
        self.right_trees = trees
        self.lot = lot

    def add_wrong(self, tree, answer):
        """Adds a tree that is wrong, by this answer, which is refused if nothing closed fits it."""
        if takes(self.lot, tree):
            raise AtOdds(answer)
        self.wrong_trees = with_last(self.wrong_trees, tree)

    def told(self, answer):
        """Answers what wants returns; returns None."""
        self.check_sort(answer)
        word, value = self.want
        if answer is not None:
            tree = value if word == "ask" else answer
            if answer is False:
                self.add_wrong(tree, answer)
            else:
                self.add_right(tree, answer)
        self.answers.append((word, value, answer))
        if answer is None:
            self.want = ("done", value)
            return
        if word == "propose":
            self.walk = Walk(self.holding, answer)
        else:
            self.walk.hear_answer(answer)
        self.go_on()

    def verdict_is_known(self, tree):
        """None if the verdict on tree is "open"; otherwise whether it is "in"."""
        if takes(self.lot, tree):
            return True
        lot = closure_grammar(self.book, self.right_trees + (tree,))
        return None if first_taken(lot, self.wrong_trees) is None else False

    def go_on(self):
        """Goes on until something is wanted again."""
        tree = self.walk.go_on()
        while tree is not None:
            known = self.verdict_is_known(tree) if self.is_sparing else None
            if known is None:
                self.want = ("ask", tree)
                return
            self.walk.hear_answer(known)
            tree = self.walk.go_on()
        self.walk = None
        self.want = ("propose", self.holding.proposal())

    def numbers(self):
        """Returns how many trees were told, questions answered, and names, rules and starts are held."""
        told = len(self.told_trees())
        asked = len([word for word, _, _ in self.answers if word == "ask"])
        holding = self.holding
        return (told, asked, len(holding.name_rows), len(holding.results), len(holding.start_by_kind))

    def told_trees(self):
        """Returns the told trees, in sequence."""
        return tuple([answer for word, _, answer in self.answers if word == "propose" and answer is not None])

    def yeses(self):
        """Returns the trees of the questions answered with True, in sequence."""
        return tuple([tree for word, tree, answer in self.answers if word == "ask" and answer])

    def noes(self):
        """Returns the trees of the questions answered with False, in sequence."""
        return tuple([tree for word, tree, answer in self.answers if word == "ask" and not answer])

    def talk(self):
        """Returns the triple of each answer with what was wanted, in sequence."""
        return tuple(self.answers)
