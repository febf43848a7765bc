"""Making all joins of sentences."""

from stoodthere.joinings import Joining


class FullJoining(Joining):
    """The pieces of sentences, to be joined until no further join can be made."""

    def __init__(self, book, sentences):
        Joining.__init__(self, book, sentences)
        # Each join that was made here, with numbers for its pieces: (word, one, two, part).
        self.steps = []
        numbers = {}
        self.kind_numbers = [numbers.setdefault(kind, len(numbers)) for kind in self.kind_row]

    def join_by(self, word, one, two, part, ends):
        """Makes this join unless its ends are joined already."""
        if not self.are_joined(ends[0], ends[1]):
            self.unite(ends[0], ends[1])
            self.steps.append((word, one, two, part))

    def join_roots(self):
        """Joins each sentence with the first one of its kind."""
        first_by_kind = {}
        for top in self.tops:
            first = first_by_kind.setdefault(self.kind_numbers[top], top)
            self.join_by("root", first, top, 0, (first, top))

    def join_ups(self):
        """Joins pieces with one root symbol whose parts are joined, lesser pieces first."""
        known = {}
        for number, piece in enumerate(self.pieces):
            # Parts that had one leader at two times are joined: equal keys never mislead.
            key = (piece[0], tuple([self.leader_of(part) for part in self.part_rows[number]]))
            first = known.setdefault(key, number)
            self.join_by("up", first, number, 0, (first, number))

    def join_downs(self):
        """Joins parts of joined pieces where all other parts are joined, greater pieces first."""
        known = {}
        for number in reversed(range(len(self.pieces))):
            parts = self.part_rows[number]
            for k, part in enumerate(parts):
                others = tuple([self.leader_of(other) for at, other in enumerate(parts) if at != k])
                symbol = self.pieces[number][0]
                key = (symbol, self.leader_of(number), k, others, self.kind_numbers[part])
                first = known.setdefault(key, number)
                self.join_by("down", first, number, k, (self.part_rows[first][k], part))

    def make_all(self):
        """Makes joins until no further one can be made."""
        self.join_roots()
        many_before = -1
        while len(self.steps) > many_before:
            many_before = len(self.steps)
            self.join_ups()
            self.join_downs()

    def made_joins(self):
        """The joins that were made here, in sequence."""
        return tuple([(word, self.pieces[one], self.pieces[two], part) for word, one, two, part in self.steps])


def full_joining(book, sentences):
    """The pieces of sentences with all joins made."""
    joining = FullJoining(book, sentences)
    joining.make_all()
    return joining


def closure_grammar(book, sentences):
    """The grammar with the classes of sentences as names, in the order of their least pieces; it has their closure."""
    return full_joining(book, sentences).class_grammar()
