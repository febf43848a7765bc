"""Joining pieces of sentences, one join after the other."""

from stoodthere.basics import is_number
from stoodthere.kindmakers import KindMaker
from stoodthere.piecelists import pieces_of
from stoodthere.pieces import parts_of
from stoodthere.treekinds import is_tree


def is_join_shape(thing):
    """Whether thing is a quadruple with a join's word first, and a number last that this word may have."""
    if not isinstance(thing, tuple) or len(thing) != 4 or not is_number(thing[3]):
        return False
    return thing[0] == "down" or (thing[0] in ("root", "up") and thing[3] == 0)


class Joining:
    """The pieces of sentences, numbered in order, and which are joined."""

    def __init__(self, book, sentences):
        self.pieces = pieces_of(sentences)
        self.number_by_piece = {piece: number for number, piece in enumerate(self.pieces)}
        self.tops = {self.number_by_piece[tree]: True for tree in sentences}
        self.part_rows = []
        self.kind_row = []
        self.start_anew()
        maker = KindMaker(book)
        # The parts of a piece stand ahead of it, so their kinds are known by then.
        for piece in self.pieces:
            parts = [self.number_by_piece[part] for part in parts_of(piece)]
            self.part_rows.append(parts)
            self.kind_row.append(maker.kind_by(piece[0][0], [self.kind_row[part] for part in parts]))

    def start_anew(self):
        """Joins nothing yet."""
        self.leaders = list(range(len(self.pieces)))
        # For each join that was made, the pair of pieces that it joined.
        self.ends = []

    def number_of_piece(self, thing):
        """The number of a piece, None if thing, which may be any value, is none."""
        return self.number_by_piece.get(thing) if is_tree(thing) else None

    def leader_of(self, number):
        """The piece that stands for all pieces joined with this one."""
        while self.leaders[number] != number:
            self.leaders[number] = self.leaders[self.leaders[number]]
            number = self.leaders[number]
        return number

    def are_joined(self, one, two):
        """Whether two pieces, told by their numbers, are joined."""
        return self.leader_of(one) == self.leader_of(two)

    def unjoined_parts(self, one, two):
        """The numbers of the parts of one that are not joined with the same part of two."""
        pairs = list(zip(self.part_rows[one], self.part_rows[two]))
        return [k for k, (part, other) in enumerate(pairs) if not self.are_joined(part, other)]

    def ends_by(self, word, one, two, part):
        """The pair of pieces that such a join joins, or None if not all holds that it asks."""
        if word == "root":
            holds = one in self.tops and two in self.tops and self.kind_row[one] == self.kind_row[two]
            return (one, two) if holds else None
        if self.pieces[one][0] != self.pieces[two][0]:
            return None
        apart = self.unjoined_parts(one, two)
        if word == "up":
            return (one, two) if not apart else None
        if not self.are_joined(one, two) or part >= len(self.part_rows[one]) or apart not in ([], [part]):
            return None
        ends = (self.part_rows[one][part], self.part_rows[two][part])
        return ends if self.kind_row[ends[0]] == self.kind_row[ends[1]] else None

    def unite(self, one, two):
        """Joins two pieces that are not joined yet."""
        self.ends.append((one, two))
        self.leaders[self.leader_of(one)] = self.leader_of(two)

    def make_join(self, thing):
        """Makes this join, which may be any value; returns None, or the word for what is wrong with it."""
        if not is_join_shape(thing):
            return "shape"
        word, tree, other, part = thing
        one = self.number_of_piece(tree)
        two = self.number_of_piece(other)
        if one is None or two is None:
            return "piece"
        ends = self.ends_by(word, one, two, part)
        if ends is None:
            return word
        if self.are_joined(ends[0], ends[1]):
            return "joined"
        self.unite(ends[0], ends[1])
        return None

    def class_row(self):
        """For each piece the number of its class, the classes being numbered by their least pieces."""
        numbers = {}
        return [numbers.setdefault(self.leader_of(number), len(numbers)) for number in range(len(self.pieces))]

    def piece_classes(self):
        """The tuple of the classes, each the tuple of its pieces in order."""
        classes = {}
        for piece, number in zip(self.pieces, self.class_row()):
            classes.setdefault(number, []).append(piece)
        return tuple([tuple(classes[number]) for number in classes])

    def class_grammar(self):
        """The grammar with these classes as names, for each piece a rule, and as starts the classes of sentences."""
        classes = self.class_row()
        rules = {}
        for number, piece in enumerate(self.pieces):
            parts = tuple([classes[part] for part in self.part_rows[number]])
            rules[(classes[number], piece[0][0], parts)] = True
        starts = tuple(sorted(set([classes[top] for top in self.tops])))
        return (max(classes, default=-1) + 1, starts, tuple(sorted(rules)))
