"""An object that tells of the closure of trees that come and go."""

from stoodthere.basics import need
from stoodthere.errors import NotThere, Stands
from stoodthere.fulljoinings import full_joining
from stoodthere.making import takes


class Closure:
    """A book, and the trees that stand."""

    def __init__(self, book):
        self.book = book
        self.trees = []
        # The pieces of the trees that stand, with all joins made; None until someone asks.
        self.joined = None

    def __eq__(self, other):
        return isinstance(other, Closure) and self.book == other.book and self.trees == other.trees

    def put(self, tree):
        """Lets tree stand, behind the others."""
        if tree in self.trees:
            raise Stands(tree)
        self.trees.append(tree)
        self.joined = None

    def take(self, tree):
        """Lets tree stand no more."""
        if tree not in self.trees:
            raise NotThere(tree)
        self.trees.remove(tree)
        self.joined = None

    def take_last(self):
        """Takes the last one of the standing trees and returns it, or None if none stands."""
        if not self.trees:
            return None
        self.joined = None
        return self.trees.pop()

    def standing(self):
        """Returns the tuple of the standing trees."""
        return tuple(self.trees)

    def all_joined(self):
        """The pieces of the standing trees, with all joins made."""
        if self.joined is None:
            self.joined = full_joining(self.book, self.trees)
        return self.joined

    def classes(self):
        """Returns the classes of the standing trees."""
        return self.all_joined().piece_classes()

    def joins(self):
        """Returns joins of the standing trees, behind which no further one can be made."""
        return self.all_joined().made_joins()

    def numbers(self):
        """Returns how many pieces, classes and joins these are."""
        joining = self.all_joined()
        return (len(joining.pieces), len(joining.piece_classes()), len(joining.steps))

    def is_same(self, tree, other):
        """Returns whether two pieces of the standing trees are of one class."""
        joining = self.all_joined()
        one = joining.number_of_piece(tree)
        need(one is not None, "tree")
        two = joining.number_of_piece(other)
        need(two is not None, "other")
        return joining.are_joined(one, two)

    def takes_in(self, tree):
        """Returns whether the closure of the standing trees has tree."""
        return takes(self.all_joined().class_grammar(), tree)
