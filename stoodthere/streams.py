"""An object that hears one tree after the other."""

from stoodthere.found import grammar_of
from stoodthere.making import takes


class Stream:
    """A book, the trees heard so far, and their found grammar."""

    def __init__(self, book):
        self.book = book
        self.trees = []
        self.found = grammar_of(book, ())
        self.many_changes = 0

    def hear(self, tree):
        """Adds tree unless it was heard before; returns whether the found grammar changes by this."""
        if tree in self.trees:
            return False
        self.trees.append(tree)
        if takes(self.found, tree):
            return False
        self.found = grammar_of(self.book, self.heard())
        self.many_changes += 1
        return True

    def form(self):
        """Returns the found grammar of the trees heard so far."""
        return self.found

    def heard(self):
        """Returns the tuple of the trees heard, in the sequence in which they first came."""
        return tuple(self.trees)

    def changes(self):
        """Returns how often hear returned True."""
        return self.many_changes
