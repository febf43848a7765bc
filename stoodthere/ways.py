"""Ways along joins, and which joins a join needs."""

from stoodthere.basics import is_number, need
from stoodthere.joinchecker import usable_joining
from stoodthere.treekinds import is_trees


def joins_at(joining):
    """For each piece, the pairs of a join with this piece as an end, told by its number, and the other end."""
    rows = [[] for _ in joining.pieces]
    for k, (one, two) in enumerate(joining.ends):
        rows[one].append((k, two))
        rows[two].append((k, one))
    return rows


def way_along(rows, one, two):
    """The list of the numbers of the joins on the way from one piece to another, None if there is no way."""
    came_by = {one: None}
    waiting = [one]
    while waiting:
        piece = waiting.pop()
        for k, end in rows[piece]:
            if end not in came_by:
                came_by[end] = (k, piece)
                waiting.append(end)
    if two not in came_by:
        return None
    way = []
    while came_by[two] is not None:
        k, two = came_by[two]
        way.append(k)
    return way[::-1]


def pairs_asked(joining, join):
    """The pairs of pieces that are joined ahead of this join, as it asks."""
    word, tree, other, part = join
    if word == "root":
        return []
    one = joining.number_of_piece(tree)
    two = joining.number_of_piece(other)
    pairs = list(zip(joining.part_rows[one], joining.part_rows[two]))
    if word == "down":
        pairs[part] = (one, two)
    return pairs


def way_of(book, given, joins, tree, other):
    """Returns the numbers of the joins on the way from tree to other, or None if they are not joined."""
    need(is_trees(given), "given")
    joining = usable_joining(book, given, joins)
    one = joining.number_of_piece(tree)
    need(one is not None, "tree")
    two = joining.number_of_piece(other)
    need(two is not None, "other")
    way = way_along(joins_at(joining), one, two)
    return None if way is None else tuple(way)


def needed_of(book, given, joins, number):
    """Returns the ascending tuple of the numbers of this join and of all that it needs."""
    need(is_trees(given), "given")
    joining = usable_joining(book, given, joins)
    need(is_number(number) and number < len(joins), "number")
    rows = joins_at(joining)
    needed = {}
    waiting = [number]
    while waiting:
        k = waiting.pop()
        if k in needed:
            continue
        needed[k] = True
        for one, two in pairs_asked(joining, joins[k]):
            waiting.extend(way_along(rows, one, two))
    return tuple(sorted(needed))
