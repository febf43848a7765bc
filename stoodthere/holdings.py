"""What a learner holds, and how it goes through a tree that it was told."""

from stoodthere.kindmakers import KindMaker
from stoodthere.pieces import end_of, part_nodes
from stoodthere.trims import plain_of


def parts_first(tree):
    """The list of the nodes of tree, each one behind those of its parts, the first part first."""
    rows = part_nodes(tree)
    nodes = []
    waiting = [0]
    while waiting:
        node = waiting.pop()
        nodes.append(node)
        waiting.extend(rows[node])
    # Each one ahead of its parts, the last part first: the very reverse.
    return nodes[::-1]


class Holding:
    """The names of a learner, each with a kind, a told tree and a node in it; its rules and its starts."""

    def __init__(self, book):
        self.maker = KindMaker(book)
        self.name_rows = []
        self.results = {}
        self.start_by_kind = {}

    def names_of_kind(self, kind):
        """The names of this kind, in the sequence in which they were made."""
        return [name for name, (own, _, _) in enumerate(self.name_rows) if own == kind]

    def new_name(self, kind, tree, node):
        """Makes a name of this kind, with this tree and this node."""
        self.name_rows.append((kind, tree, node))
        return len(self.name_rows) - 1

    def asked_of(self, name, piece):
        """The tree of name with this piece put at its node."""
        _, tree, node = self.name_rows[name]
        return tree[:node] + piece + tree[end_of(tree, node):]

    def proposal(self):
        """The names, starts and rules as a plain grammar."""
        rules = [(result, word, parts) for (word, parts), result in self.results.items()]
        starts = sorted([self.start_by_kind[kind] for kind in self.start_by_kind])
        return plain_of((len(self.name_rows), tuple(starts), tuple(sorted(rules))))


class Walk:
    """A told tree that is gone through, piece by piece."""

    def __init__(self, holding, tree):
        self.holding = holding
        self.tree = tree
        self.part_rows = part_nodes(tree)
        self.kind_row = holding.maker.kinds_in(tree)
        self.path = parts_first(tree)
        self.named = {}
        # The names that may yet be asked about for the next piece; None if this was not looked at.
        self.rivals = None

    def key_at(self, node):
        """The word of the piece at node, and the names of its parts."""
        return (self.tree[node][0], tuple([self.named[part] for part in self.part_rows[node]]))

    def known_name(self, node):
        """The name that the piece at node gets without any question, or None."""
        key = self.key_at(node)
        if key in self.holding.results:
            return self.holding.results[key]
        return self.holding.start_by_kind.get(self.kind_row[0]) if node == 0 else None

    def settle(self, node, name):
        """Gives the piece at node this name."""
        self.named[node] = name
        self.holding.results[self.key_at(node)] = name
        self.rivals = None
        if node == 0:
            self.holding.start_by_kind.setdefault(self.kind_row[0], name)

    def go_on(self):
        """Goes on until a question is to be asked, which is returned, or to the end: then returns None."""
        while len(self.named) < len(self.path):
            node = self.path[len(self.named)]
            if self.rivals is None:
                name = self.known_name(node)
                if name is not None:
                    self.settle(node, name)
                    continue
                self.rivals = self.holding.names_of_kind(self.kind_row[node])
            if self.rivals:
                return self.holding.asked_of(self.rivals[0], self.tree[node:end_of(self.tree, node)])
            self.settle(node, self.holding.new_name(self.kind_row[node], self.tree, node))
        return None

    def hear_answer(self, is_right):
        """Takes the answer to the question that go_on returned."""
        if is_right:
            self.settle(self.path[len(self.named)], self.rivals[0])
        else:
            self.rivals = self.rivals[1:]
