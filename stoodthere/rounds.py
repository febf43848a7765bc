"""All exchanges in some trees, and doing them round by round."""

from stoodthere.basics import is_number, need
from stoodthere.kindmakers import KindMaker
from stoodthere.orders import in_order
from stoodthere.pieces import ends_of
from stoodthere.treekinds import is_trees


def pieces_by_stand(maker, trees):
    """For each place with a kind a dict: for each such piece there, the tree and node that show it."""
    stands = {}
    for tree in trees:
        kinds = maker.kinds_in(tree)
        for node, end in enumerate(ends_of(tree)):
            shows = stands.setdefault((tree[:node], tree[end:], kinds[node]), {})
            shows[tree[node:end]] = (tree, node)
    return stands


def swaps_in(maker, trees):
    """For each piece a dict: for each piece that it may be exchanged for, itself too, (one, two, node)."""
    swaps = {}
    for shows in list(pieces_by_stand(maker, trees).values()):
        for piece, (one, node) in shows.items():
            others = swaps.setdefault(piece, {})
            for other, (two, _) in shows.items():
                others[other] = (one, two, node)
    return swaps


def fourths_to(maker, trees, most):
    """The fourths that are not among trees, with at most most symbols; with any number if most is None."""
    swaps = swaps_in(maker, trees)
    present = {tree: True for tree in trees}
    fourths = {}
    for third in trees:
        for place, end in enumerate(ends_of(third)):
            for other in swaps[third[place:end]]:
                if most is not None and len(third) - (end - place) + len(other) > most:
                    continue
                fourth = third[:place] + other + third[end:]
                if fourth not in present:
                    fourths[fourth] = True
    return list(fourths)


def fourths_of(book, trees):
    """Returns, in order, the fourths of all exchanges in trees that are not among them."""
    need(is_trees(trees), "trees")
    return in_order(fourths_to(KindMaker(book), trees, None))


def one_round(book, trees, most):
    """Returns, in order, all of trees, and their fourths of at most most symbols."""
    need(is_trees(trees), "trees")
    need(is_number(most), "most")
    return in_order(list(trees) + fourths_to(KindMaker(book), trees, most))


def grown(book, trees, most, rounds):
    """Returns, in order, what comes of trees by so many rounds."""
    need(is_trees(trees), "trees")
    need(is_number(most), "most")
    need(is_number(rounds), "rounds")
    maker = KindMaker(book)
    lot = list(trees)
    for _ in range(rounds):
        fourths = fourths_to(maker, lot, most)
        # A round that brings nothing is followed by others that bring nothing.
        if not fourths:
            break
        lot = lot + fourths
    return in_order(lot)


def open_exchange(book, trees):
    """Returns None if trees are a closed lot, else an exchange in them whose fourth is not among them."""
    need(is_trees(trees), "trees")
    swaps = swaps_in(KindMaker(book), trees)
    present = {tree: True for tree in trees}
    for third in trees:
        for place, end in enumerate(ends_of(third)):
            for other, (one, two, node) in swaps[third[place:end]].items():
                fourth = third[:place] + other + third[end:]
                if fourth not in present:
                    return (one, two, node, third, place, fourth)
    return None
