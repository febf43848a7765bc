"""New desks from logs, from states, and from two desks."""

from stoodthere.basics import need
from stoodthere.desk import Desk
from stoodthere.events import is_log


def replayed(book, log):
    """Returns a desk with this book on which the events of log were done."""
    need(is_log(log), "log")
    desk = Desk(book)
    for event in log:
        desk.do_event(event)
    return desk


def fresh_desk(state):
    """Returns a desk with this state."""
    book, standing, barred = state
    desk = Desk(book)
    for tree in standing:
        desk.put(tree)
    for tree in barred:
        desk.bar(tree)
    return desk


def all_of_both(trees, others):
    """The tuple of trees, and then of those of others that are not among them."""
    return trees + tuple([tree for tree in others if tree not in trees])


def merged_desks(one, two):
    """Returns a desk with the book of both desks and with what stands and is barred on one of them."""
    book, standing, barred = one.state()
    need(isinstance(two, Desk) and two.state()[0] == book, "two")
    _, more, more_barred = two.state()
    return fresh_desk((book, all_of_both(standing, more), all_of_both(barred, more_barred)))
