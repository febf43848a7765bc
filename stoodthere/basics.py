"""What nearly every other file needs: numbers, ascending rows, checks of parameters."""

from stoodthere.errors import NotUsable


def is_integer(thing):
    """Whether thing is an integer, and so no bool."""
    return isinstance(thing, int) and not isinstance(thing, bool)


def is_number(thing):
    """Whether thing is an integer that is at least 0."""
    return is_integer(thing) and thing >= 0


def is_number_to(thing, most):
    """Whether thing is a number of at most most."""
    return is_number(thing) and thing <= most


def is_node(thing, tree):
    """Whether thing is a node of the tree."""
    return is_number(thing) and thing < len(tree)


def ascends(row):
    """Whether each value of the row is less than the next one."""
    return all([ahead < behind for ahead, behind in zip(row, row[1:])])


def need(holds, name):
    """Refuses the parameter with this name, unless it is as stated."""
    if not holds:
        raise NotUsable(name, -1)


def with_last(row, value):
    """The tuple of what row has, with value behind it if row does not have it."""
    return row if value in row else row + (value,)
