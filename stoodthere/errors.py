"""The errors of the package, in five families."""


class StoodError(ValueError):
    """The base class of all errors of the package."""


class PaperError(StoodError):
    """A checker refuses what it was given."""


class UseError(StoodError):
    """A function was given what it is not for."""


class LiveError(StoodError):
    """An object refuses a deed."""


class TalkError(StoodError):
    """A learner refuses an answer."""


class TextError(StoodError):
    """A text cannot be read."""


class InvalidPaper(PaperError):
    """What a checker refuses: by which check, and where."""

    def __init__(self, word, at):
        self.word = word
        self.at = at


class NotUsable(UseError):
    """A parameter is not as stated: its name, and where."""

    def __init__(self, word, at):
        self.word = word
        self.at = at


class Stands(LiveError):
    """A tree is there already."""

    def __init__(self, tree):
        self.tree = tree


class NotThere(LiveError):
    """A tree is not there."""

    def __init__(self, tree):
        self.tree = tree


class InvalidEvent(LiveError):
    """An event cannot be done, and why."""

    def __init__(self, event, reason):
        self.event = event
        self.reason = reason


class NothingToUndo(LiveError):
    """There are fewer steps than are to be undone."""

    def __init__(self, steps):
        self.steps = steps


class Ended(TalkError):
    """An answer comes after the end of the talk."""

    def __init__(self, answer):
        self.answer = answer


class NotAsked(TalkError):
    """An answer is not of the sort that is wanted."""

    def __init__(self, answer):
        self.answer = answer


class Taken(TalkError):
    """A told tree lies in the lot that was proposed."""

    def __init__(self, answer):
        self.answer = answer


class AtOdds(TalkError):
    """With this answer, no closed lot fits all answers."""

    def __init__(self, answer):
        self.answer = answer


class InvalidText(TextError):
    """A text has a fault: its line, and where in it."""

    def __init__(self, line, at):
        self.line = line
        self.at = at
