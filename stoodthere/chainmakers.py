"""Making chains of exchanges in which no tree is too long."""

from stoodthere.fulljoinings import full_joining
from stoodthere.leasttrees import least_trees
from stoodthere.making import names_at_nodes, takes
from stoodthere.orders import order_key
from stoodthere.pieces import ends_of, part_nodes, whole_of


class Hub:
    """One place, and for each of some trees of one class the number of the line that has it there.

    By these lines each of the trees may be exchanged for each other one. The place comes from a
    given tree with the longest piece of the class, so no line with a piece is longer than that tree.
    """

    def __init__(self, node, line, number, piece):
        self.node = node
        self.lines = {piece: line}
        self.members = [number]
        self.most = len(piece)


class ChainMaker:
    """Lines of a chain, each tree in one alone, and for each piece of the given trees its hub."""

    def __init__(self, book, given):
        self.joining = full_joining(book, given)
        self.pieces = self.joining.pieces
        self.lines = []
        self.trees = []
        self.line_by_tree = {}
        for tree in given:
            self.line_of(tree, ("given", tree))
        hubs = {}
        for line, tree in enumerate(given):
            for node, end in enumerate(ends_of(tree)):
                number = self.joining.number_by_piece[tree[node:end]]
                hubs[number] = Hub(node, line, number, tree[node:end])
        self.hubs = [hubs[number] for number in range(len(self.pieces))]

    def line_of(self, tree, line):
        """The number of the line that has tree; this one is added if there is none."""
        if tree not in self.line_by_tree:
            self.line_by_tree[tree] = len(self.lines)
            self.lines.append(line)
            self.trees.append(tree)
        return self.line_by_tree[tree]

    def exchange(self, base, node, piece, other, shows):
        """The line with other put at node of the tree of base for piece, as shows, (one, place, two), tells."""
        tree = self.trees[base]
        one, place, two = shows
        return self.line_of(tree[:node] + other + tree[node + len(piece):], ("put", base, node, one, place, two))

    def exchange_by(self, hub, base, node, piece, other):
        """The same by the lines of a hub that has both; piece and other may be one tree."""
        if piece == other:
            return base
        return self.exchange(base, node, piece, other, (hub.lines[piece], hub.node, hub.lines[other]))

    def with_parts(self, number, wanted):
        """The line with, at the place of its hub, a piece whose parts are exchanged for these wanted ones."""
        hub = self.hubs[number]
        line = hub.lines[self.pieces[number]]
        part_numbers = self.joining.part_rows[number]
        parts = [self.pieces[part] for part in part_numbers]
        # What shrinks comes first, so that no tree between is longer than the first or the last one.
        growths = [(len(other) - len(part), k) for k, (part, other) in enumerate(zip(parts, wanted))]
        for _, k in sorted(growths):
            node = hub.node + 1 + sum([len(part) for part in parts[:k]])
            line = self.exchange_by(self.hubs[part_numbers[k]], line, node, parts[k], wanted[k])
            parts[k] = wanted[k]
        return line

    def shown_below(self, one, two, part):
        """Lines that show the parts with this number of two joined pieces at one place: (one, place, two)."""
        lesser = []
        for number, other in zip(self.joining.part_rows[one], self.joining.part_rows[two]):
            lesser.append(min([self.pieces[number], self.pieces[other]], key=order_key))
        lines = []
        for number in (one, two):
            wanted = list(lesser)
            wanted[part] = self.pieces[self.joining.part_rows[number][part]]
            lines.append(self.with_parts(number, wanted))
        node = self.hubs[one].node + 1 + sum([len(tree) for tree in lesser[:part]])
        return (lines[0], node, lines[1])

    def line_across(self, step, large, small):
        """The line with, at the place of the hub of large, the piece small, which this step joins with large."""
        word, one, two, part = step
        if word == "up":
            return self.with_parts(large, [self.pieces[number] for number in self.joining.part_rows[small]])
        piece, other = self.pieces[large], self.pieces[small]
        if word == "root":
            shows = (self.line_by_tree[piece], 0, self.line_by_tree[other])
        elif large == self.joining.part_rows[one][part]:
            shows = self.shown_below(one, two, part)
        else:
            shows = self.shown_below(two, one, part)
        hub = self.hubs[large]
        return self.exchange(hub.lines[piece], hub.node, piece, other, shows)

    def merge(self, step, ends):
        """Puts all that the lesser one of two hubs has at the place of the other one."""
        large, small = ends
        if self.hubs[large].most < self.hubs[small].most:
            small, large = ends
        line = self.line_across(step, large, small)
        hub, left = self.hubs[large], self.hubs[small]
        for number in list(left.members):
            piece = self.pieces[number]
            hub.lines[piece] = self.exchange_by(left, line, hub.node, self.pieces[small], piece)
            hub.members.append(number)
            self.hubs[number] = hub

    def merge_all(self):
        """Makes the hubs those of the classes that are left when all joins are made."""
        for step, ends in zip(self.joining.steps, self.joining.ends):
            self.merge(step, ends)

    def show_rules(self, least):
        """Puts into the hubs, for each rule, the tree that it makes of the least trees of the classes."""
        shown = {}
        classes = self.joining.class_row()
        for number, piece in enumerate(self.pieces):
            wanted = [least[classes[part]] for part in self.joining.part_rows[number]]
            shown.setdefault((classes[number], whole_of(piece[0][0], wanted)), (number, wanted))
        # A least tree has least trees as its parts, and these come ahead of it.
        for key in sorted(shown, key=lambda pair: order_key(pair[1])):
            number, wanted = shown[key]
            self.hubs[number].lines[key[1]] = self.with_parts(number, wanted)

    def build(self, tree, rules, least):
        """The line with tree, which the closure has: from the root on, least trees are exchanged for its own."""
        names = [list(made)[0] for made in names_at_nodes(rules, tree)]
        classes = self.joining.class_row()
        hubs = {tree_class: self.hubs[number] for number, tree_class in enumerate(classes)}
        tops = [top for top in self.joining.tops if classes[top] == names[0]]
        top = self.pieces[tops[0]]
        line = self.exchange_by(hubs[names[0]], self.line_by_tree[top], 0, top, least[names[0]])
        rows = part_nodes(tree)
        for node, (word, _) in enumerate(tree):
            wanted = whole_of(word, [least[names[part]] for part in rows[node]])
            line = self.exchange_by(hubs[names[node]], line, node, least[names[node]], wanted)
        return line

    def chain_to(self, last):
        """The chain of the lines that the line last needs, with itself as its last one."""
        needed = {last: True}
        for k in reversed(range(last + 1)):
            if k in needed and self.lines[k][0] == "put":
                _, base, _, one, _, two = self.lines[k]
                needed.update({base: True, one: True, two: True})
        numbers = {k: number for number, k in enumerate(sorted(needed))}
        chain = []
        for k in sorted(needed):
            line = self.lines[k]
            if line[0] == "put":
                _, base, node, one, place, two = line
                line = ("put", numbers[base], node, numbers[one], place, numbers[two])
            chain.append(line)
        return tuple(chain)


def made_chain(book, given, tree):
    """A chain from given that ends with tree, or None if the closure of given does not have it."""
    maker = ChainMaker(book, given)
    grammar = maker.joining.class_grammar()
    if not takes(grammar, tree):
        return None
    least = least_trees(grammar)
    maker.merge_all()
    maker.show_rules(least)
    return maker.chain_to(maker.build(tree, grammar[2], least))
