"""Making the kinds of trees from those of their parts."""

from stoodthere.cuts import STUB, cut_at
from stoodthere.pieces import part_nodes, whole_of


def numbers_by_key(simple):
    """A dict with the number for each row of groups or of a table, an empty one for a depth."""
    if simple[0] == "groups":
        return {word: number for word, number in simple[1]}
    if simple[0] == "table":
        return {(word, numbers): number for word, numbers, number in simple[1]}
    return {}


class KindMaker:
    """Makes kinds by one book."""

    def __init__(self, book):
        # For each simple one its word, its numbers by their keys, and its depth or other.
        self.simples = [(simple[0], numbers_by_key(simple), simple[-1]) for simple in book]

    def entry_from(self, k, word, entries):
        """The entry for simple one k, from the entries of the parts for it."""
        name, numbers, last = self.simples[k]
        if name == "groups":
            return numbers.get(word, last)
        if name == "table":
            return numbers.get((word, tuple(entries)), last)
        if last == 0:
            return (STUB,)
        return whole_of(word, [cut_at(entry, last - 1) for entry in entries])

    def kind_by(self, word, kinds):
        """The kind of the trees with this word in the root, and parts of these kinds."""
        entries = [self.entry_from(k, word, [kind[k] for kind in kinds]) for k in range(len(self.simples))]
        return tuple(entries)

    def kinds_in(self, tree):
        """A list of the kinds of the pieces at all nodes of tree."""
        kinds = [None] * len(tree)
        rows = part_nodes(tree)
        for node in reversed(range(len(tree))):
            kinds[node] = self.kind_by(tree[node][0], [kinds[part] for part in rows[node]])
        return kinds

    def kind_in(self, tree):
        """The kind of tree."""
        return self.kinds_in(tree)[0]
