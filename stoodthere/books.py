"""Making books."""


def depth_book(depth):
    """Returns the book of this one depth."""
    return (("depth", depth),)


def paired(book, other):
    """Returns the book by which trees are of one kind if they are so by book and by other."""
    return book if book == other else book + other
