"""An object that judges trees by standing and barred ones that come and go."""

from stoodthere.errors import NotThere, Stands
from stoodthere.found import grammar_of
from stoodthere.verdicts import odds_of, verdict_of, verdict_paper


def add_to(trees, tree):
    """Puts tree behind the others of the list trees."""
    if tree in trees:
        raise Stands(tree)
    trees.append(tree)


def remove_from(trees, tree):
    """Takes tree out of the list trees."""
    if tree not in trees:
        raise NotThere(tree)
    trees.remove(tree)


class Judged:
    """A book, the trees that stand, and those that are barred."""

    def __init__(self, book):
        self.book = book
        self.kept = []
        self.bars = []

    def __eq__(self, other):
        return (
            isinstance(other, Judged)
            and self.book == other.book and self.kept == other.kept and self.bars == other.bars
        )

    def put(self, tree):
        """Adds tree as the last of the standing trees."""
        add_to(self.kept, tree)

    def bar(self, tree):
        """Adds tree as the last of the barred trees."""
        add_to(self.bars, tree)

    def take(self, tree):
        """Removes tree from the standing trees."""
        remove_from(self.kept, tree)

    def free(self, tree):
        """Removes tree from the barred trees."""
        remove_from(self.bars, tree)

    def standing(self):
        """Returns the tuple of the standing trees."""
        return tuple(self.kept)

    def barred(self):
        """Returns the tuple of the barred trees."""
        return tuple(self.bars)

    def verdict(self, tree):
        """Returns the verdict on tree."""
        return verdict_of(self.book, self.standing(), self.barred(), tree)

    def paper(self, tree):
        """Returns a paper of the verdict on tree."""
        return verdict_paper(self.book, self.standing(), self.barred(), tree)

    def odds(self):
        """Returns the first barred tree that the closure of the standing ones has, or None."""
        return odds_of(self.book, self.standing(), self.barred())

    def grammar(self):
        """Returns the found grammar of the standing trees."""
        return grammar_of(self.book, self.standing())
