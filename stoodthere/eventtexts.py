"""Texts of events and logs, and reading them."""

from stoodthere.basics import need
from stoodthere.bookreadings import BookReader
from stoodthere.booktexts import book_text
from stoodthere.events import TREE_DEEDS
from stoodthere.paperreadings import lines_of
from stoodthere.treetexts import shown


class EventReader(BookReader):
    """Reads the fields of one event's line, one after the other."""

    def read_event_line(self):
        """Reads the whole line; returns the event."""
        word = self.seen()
        if word != "book" and word not in TREE_DEEDS:
            self.refuse()
        self.at += 1
        if word == "book":
            return (word, self.read_all())
        tree = self.read_shown()
        self.read_end()
        return (word, tree)


def event_line(event):
    """Returns the text of event."""
    word, value = event
    return word + " " + (book_text(value) if word == "book" else shown(value))


def log_text(log):
    """Returns the text of log, with a line for each event."""
    return "\n".join([event_line(event) for event in log])


def read_event(text):
    """Returns the event with this text."""
    need(isinstance(text, str), "text")
    return EventReader(0, text).read_event_line()


def read_log(text):
    """Returns the log with this text."""
    need(isinstance(text, str), "text")
    return tuple([EventReader(k, line).read_event_line() for k, line in enumerate(lines_of(text))])
