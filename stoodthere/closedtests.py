"""Whether a lot is closed, and what tells that it is not."""

from heapq import heappop, heappush

from stoodthere.basics import need
from stoodthere.canons import canon_by
from stoodthere.chainchecker import tree_of_line
from stoodthere.chainmakers import made_chain
from stoodthere.closings import closure_form
from stoodthere.fairness import first_breach, kinds_of_names, unsingle_pair, unturned_pair
from stoodthere.grammarkinds import is_grammar
from stoodthere.kindmakers import KindMaker
from stoodthere.leastplaces import EMPTY_PLACE, PlaceMaker, size_of
from stoodthere.lessons import lessons_by_rule
from stoodthere.making import takes
from stoodthere.orders import in_order
from stoodthere.outsides import outside_of

# Stands for a name where there is none: numbers alone can be compared in a queue.
NO_NAME = -1


def put_in(outer, inner):
    """The place that comes if inner, a place in a piece, is taken where the piece stands at outer."""
    return (outer[0] + inner[0], inner[1] + outer[1])


class PlaceParter(PlaceMaker):
    """A canon, and for two of its names a small place at which the trees of one alone stand."""

    def __init__(self, canon):
        PlaceMaker.__init__(self, canon)
        self.results = {(word, parts): result for result, word, parts in canon[2]}
        self.highs = self.homes()

    def place_of_part(self, k, at):
        """A place of trees of the lot at which this part of rule k stands."""
        return put_in(self.highs[self.rules[k][0]], self.place_below(EMPTY_PLACE, k, at))

    def result_with(self, k, at, name):
        """The result of the rule that is rule k with name as this part, if there is one."""
        _, word, parts = self.rules[k]
        return self.results.get((word, parts[:at] + (name,) + parts[at + 1:]), NO_NAME)

    def parted_at(self, one, two, place):
        """A place for trees of one name alone, in which each of the two stands at place; None if none is seen here."""
        if NO_NAME in (one, two):
            return put_in(self.highs[max(one, two)], place)
        return place if (one in self.starts) != (two in self.starts) else None

    def steps_from(self, one, two, place):
        """Triples of two unlike names and a place: what rules make of one and of two, with the same other parts."""
        steps = []
        for k, at in self.uses_of[one] + self.uses_of[two]:
            first, second = self.result_with(k, at, one), self.result_with(k, at, two)
            if first != second:
                steps.append((first, second, put_in(self.place_below(EMPTY_PLACE, k, at), place)))
        return steps

    def parting_place(self, one, two):
        """A place at which the lot has the trees of one alone of two unlike names of one kind."""
        queue = [(0, EMPTY_PLACE, one, two)]
        seen = {}
        while True:
            _, place, first, second = heappop(queue)
            # Two equal names stand for a whole place that was seen to part the first two.
            if first == second:
                return place
            if (first, second) in seen:
                continue
            seen[(first, second)] = True
            parted = self.parted_at(first, second, place)
            steps = self.steps_from(first, second, place) if parted is None else [(NO_NAME, NO_NAME, parted)]
            for above, other, outer in steps:
                heappush(queue, (size_of(outer), outer, above, other))

    def unlike_pair(self, canon, kinds):
        """A place of trees of the lot, and two unlike names of one kind whose trees stand there."""
        pair = unsingle_pair(canon, kinds)
        if pair is not None:
            return (EMPTY_PLACE, self.starts[pair[0]], self.starts[pair[1]])
        one, two, at = unturned_pair(canon, kinds)
        return (self.place_of_part(one, at), self.rules[one][2][at], self.rules[two][2][at])


def is_closed(book, grammar):
    """Returns whether the lot of grammar is closed."""
    need(is_grammar(grammar), "grammar")
    return first_breach(book, canon_by(book, grammar)) is None


def three_and_one(book, grammar):
    """Returns None if the lot is closed, otherwise an exchange among its trees whose fourth it does not have."""
    need(is_grammar(grammar), "grammar")
    canon = canon_by(book, grammar)
    if first_breach(book, canon) is None:
        return None
    parter = PlaceParter(canon)
    (front, back), one, two = parter.unlike_pair(canon, kinds_of_names(KindMaker(book), canon))
    begin, end = parter.parting_place(one, two)
    piece, other = parter.least[one], parter.least[two]
    if not takes(canon, begin + piece + end):
        piece, other = other, piece
    third, fourth = begin + piece + end, begin + other + end
    return (front + piece + back, front + other + back, len(front), third, len(begin), fourth)


def chain_up_to(chain, grammar):
    """The chain up to its first line with a tree that the lot does not have, and the number of this line."""
    trees = []
    for line in chain:
        trees.append(tree_of_line(line, trees))
        if not takes(grammar, trees[-1]):
            break
    return (chain[:len(trees)], len(trees) - 1)


def chain_out(book, grammar):
    """Returns None if the lot is closed, otherwise a chain from its lessons, and its first line outside of the lot."""
    need(is_grammar(grammar), "grammar")
    tree = outside_of(closure_form(book, [grammar]), grammar)
    if tree is None:
        return None
    chain = made_chain(book, in_order(lessons_by_rule(book, grammar)), tree)
    return chain_up_to(chain, grammar)
