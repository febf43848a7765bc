"""A desk: a book, standing and barred trees, a log of what was done, and all that they tell."""

from stoodthere.basics import need
from stoodthere.brings import brings_of
from stoodthere.counts import count_of
from stoodthere.dials import boldest_of, doubt_of
from stoodthere.errors import InvalidEvent, NotThere, NothingToUndo, Stands
from stoodthere.events import is_event
from stoodthere.found import grammar_of
from stoodthere.judging import add_to, remove_from
from stoodthere.leans import lean_of
from stoodthere.lessons import lessons_of
from stoodthere.mending import mend_of
from stoodthere.numbering import tree_at
from stoodthere.quarrels import quarrel_of
from stoodthere.readings import least_reading
from stoodthere.verdicts import verdict_of, verdict_paper


class Desk:
    """A book, the trees that stand, those that are barred, and the events so far."""

    def __init__(self, book):
        self.book = book
        self.kept = []
        self.bars = []
        self.done = []
        # For each event the state ahead of it.
        self.earlier = []

    def __eq__(self, other):
        return (
            isinstance(other, Desk)
            and self.book == other.book and self.kept == other.kept and self.bars == other.bars
        )

    def note(self, before, event):
        """Puts an event that was done at the end of the log, with the state ahead of it."""
        self.earlier.append(before)
        self.done.append(event)

    def put(self, tree):
        """Adds tree as the last of the standing trees."""
        before = self.state()
        add_to(self.kept, tree)
        self.note(before, ("put", tree))

    def bar(self, tree):
        """Adds tree as the last of the barred trees."""
        before = self.state()
        add_to(self.bars, tree)
        self.note(before, ("bar", tree))

    def take(self, tree):
        """Removes tree from the standing trees."""
        before = self.state()
        remove_from(self.kept, tree)
        self.note(before, ("take", tree))

    def free(self, tree):
        """Removes tree from the barred trees."""
        before = self.state()
        remove_from(self.bars, tree)
        self.note(before, ("free", tree))

    def change_book(self, book):
        """Gives the desk this book."""
        before = self.state()
        self.book = book
        self.note(before, ("book", book))

    def undo(self, steps):
        """Takes the last events out of the log; all is again as it was ahead of them."""
        left = len(self.done) - steps
        if left < 0:
            raise NothingToUndo(steps)
        if steps > 0:
            book, standing, barred = self.earlier[left]
            self.book = book
            self.kept = list(standing)
            self.bars = list(barred)
            del self.earlier[left:]
            del self.done[left:]

    def do_deed(self, word, value):
        """Does the deed of an event."""
        if word == "put":
            self.put(value)
        elif word == "bar":
            self.bar(value)
        elif word == "take":
            self.take(value)
        elif word == "free":
            self.free(value)
        else:
            self.change_book(value)

    def do_event(self, event):
        """Does the deed of event, which may be any value."""
        if not is_event(event):
            raise InvalidEvent(event, "shape")
        word, value = event
        try:
            self.do_deed(word, value)
        except Stands:
            raise InvalidEvent(event, "stands") from None
        except NotThere:
            raise InvalidEvent(event, "missing") from None

    def do_all(self, events, keep):
        """Does the deeds of events up to the first one that is refused; then only keep lets them stay done."""
        need(isinstance(keep, bool), "keep")
        many = len(self.done)
        for event in events:
            try:
                self.do_event(event)
            except InvalidEvent:
                if not keep:
                    self.undo(len(self.done) - many)
                raise

    def standing(self):
        """The tuple of the standing trees."""
        return tuple(self.kept)

    def barred(self):
        """The tuple of the barred trees."""
        return tuple(self.bars)

    def state(self):
        """Returns the book, the standing trees and the barred trees."""
        return (self.book, self.standing(), self.barred())

    def log(self):
        """Returns the tuple of the events."""
        return tuple(self.done)

    def verdict(self, tree):
        """Returns the verdict on tree."""
        return verdict_of(self.book, self.standing(), self.barred(), tree)

    def paper(self, tree):
        """Returns a paper of the verdict on tree."""
        return verdict_paper(self.book, self.standing(), self.barred(), tree)

    def grammar(self):
        """Returns the found grammar of the standing trees."""
        return grammar_of(self.book, self.standing())

    def lessons(self):
        """Returns the lessons of the found grammar."""
        return lessons_of(self.book, self.grammar())

    def lean(self):
        """Returns few standing trees with the same closure."""
        return lean_of(self.book, self.standing())

    def quarrel(self):
        """Returns None if something fits, else few standing trees and a barred one that their closure has."""
        return quarrel_of(self.book, self.standing(), self.barred())

    def boldest(self):
        """Returns the least depth by which something fits, or None."""
        return boldest_of(self.standing(), self.barred())

    def doubt(self, depth):
        """Returns the least tree that the closure by depth has, and not that by the next depth, or None."""
        return doubt_of(self.standing(), depth)

    def brings(self, tree):
        """Returns the least tree but tree that comes into the closure with it, or None."""
        return brings_of(self.book, self.standing(), tree)

    def counted(self, nodes):
        """Returns how many trees with so many symbols the found grammar has."""
        return count_of(self.grammar(), nodes)

    def tree_by(self, number):
        """Returns the tree of the found grammar with this number, or None."""
        return tree_at(self.grammar(), number)

    def mended(self, tree):
        """Returns the price of the nearest tree of the found grammar, and this tree, or None."""
        return mend_of(self.grammar(), tree)

    def reading(self, words):
        """Returns the least tree of the found grammar with these leaves, or None."""
        return least_reading(self.grammar(), words)
