"""The lessons of grammars."""

from heapq import heappop, heappush

from stoodthere.basics import need
from stoodthere.grammarkinds import is_grammar
from stoodthere.leastplaces import PlaceMaker, size_of
from stoodthere.orders import in_order, least_of
from stoodthere.pieces import whole_of
from stoodthere.splits import split_by


class LessonMaker(PlaceMaker):
    """A trim grammar, and how few symbols stand around each of its names."""

    def __init__(self, grammar):
        PlaceMaker.__init__(self, grammar)
        homes = self.homes()
        self.sizes = [size_of(homes[name]) for name in range(grammar[0])]
        self.near_uses = [self.near_uses_of(name) for name in range(grammar[0])]

    def near_uses_of(self, name):
        """The uses of name, pairs of a rule and a part's number, by which a place with fewest symbols goes on."""
        uses = []
        for k, at in self.uses_of[name]:
            result, _, parts = self.rules[k]
            around = 1 + sum([len(self.least[part]) for part in parts]) - len(self.least[name])
            if self.sizes[result] + around == self.sizes[name]:
                uses.append((k, at))
        return uses

    def least_with(self, piece, name):
        """The least tree of the lot in which name makes this piece."""
        wholes = {name: piece}
        found = []
        # From the name upward: each one is reached from names with larger places alone.
        queue = [(-self.sizes[name], name)]
        while queue:
            _, lower = heappop(queue)
            if self.sizes[lower] == 0:
                found.append(wholes[lower])
            for k, at in self.near_uses[lower]:
                result = self.rules[k][0]
                whole = self.rule_tree(k, at, wholes[lower])
                if result not in wholes:
                    heappush(queue, (-self.sizes[result], result))
                wholes[result] = min(whole, wholes.get(result, whole))
        return least_of(found)

    def lesson_of(self, k):
        """The least tree of the lot that uses rule k."""
        result, word, parts = self.rules[k]
        return self.least_with(whole_of(word, [self.least[part] for part in parts]), result)


def lessons_by_rule(book, grammar):
    """The list of the lessons of all rules of the split grammar."""
    split, _ = split_by(book, grammar)
    maker = LessonMaker(split)
    return [maker.lesson_of(k) for k in range(len(split[2]))]


def rule_lessons(book, grammar):
    """Returns the lesson of each rule of the split grammar."""
    need(is_grammar(grammar), "grammar")
    return tuple(lessons_by_rule(book, grammar))


def lessons_of(book, grammar):
    """Returns the lessons of grammar, in order."""
    need(is_grammar(grammar), "grammar")
    return in_order(lessons_by_rule(book, grammar))
