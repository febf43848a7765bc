"""Whether lots are closed, and by which depth: [74]."""

import unittest

from stoodthere.chainchecker import lets_chain
from stoodthere.closeddepths import closed_depth
from stoodthere.closedtests import chain_out, is_closed, three_and_one
from stoodthere.exchanges import exchanged
from stoodthere.fairness import is_fair
from stoodthere.lessons import lessons_of
from stoodthere.making import takes
from tests import oracle
from tests.checks import Checks
from tests.samples import A, BOLD, BOOKS, DEEP, EMPTY, EVEN, FA, FAIR_DEEP, FFA, FOUND, LONG, ODD, ONE
from tests.samples import WRONG_GRAMMARS, WRONG_NUMBERS, Draw, drawn_driven, drawn_grammar, trees_up_to

TWO = (2, (0, 1), ((0, "a", ()), (1, "f", (0,))))
NOTHING = (EMPTY, (5, (), ()), (1, (0,), ()), (1, (), ((0, "a", ()),)), (2, (0, 1), ((0, "f", (1,)),)))
SYMBOLS = (("a", 0), ("b", 0), ("f", 1), ("g", 2))
FIVE = trees_up_to(SYMBOLS, 5)
THIN = (("a", 0), ("b", 0), ("f", 1))
THIN_TREES = trees_up_to(THIN, 8)


def drawn(seed, many, most_rules, symbols=SYMBOLS):
    draw = Draw(seed)
    for k in range(many):
        book = BOOKS[k % len(BOOKS)]
        if book == (("depth", 60),):
            book = (("depth", 2),)
        make = drawn_driven if k % 2 else drawn_grammar
        yield book, make(draw, 1 + draw.below(4), 2 + draw.below(most_rules), symbols)


class TestClosed(Checks, unittest.TestCase):

    def check_three(self, book, grammar, told):
        """An exchange among trees of the lot, whose fourth it does not have, by the definitions."""
        self.assertEqual((type(told), len(told)), (tuple, 6))
        one, two, node, third, at, fourth = told
        self.assertEqual(oracle.lot_among(grammar, [one, two, third]), [one, two, third])
        self.assertEqual(oracle.lot_among(grammar, [fourth]), [])
        self.assert_same(oracle.fourth(book, one, two, node, third, at), fourth)
        self.assert_same(exchanged(book, one, two, node, third, at), fourth)

    def check_chain(self, book, grammar, told):
        """Each line of the chain read by its definition; the line told is the first one outside."""
        self.assertEqual((type(told), len(told)), (tuple, 2))
        chain, line = told
        lessons = lessons_of(book, grammar)
        trees = oracle.chain_trees(book, lessons, chain)
        self.assert_same(lets_chain(book, lessons, chain), tuple(trees))
        outside = [k for k, tree in enumerate(trees) if not oracle.lot_among(grammar, [tree])]
        self.assert_same(outside[0], line)

    def test_examples(self):
        self.assert_same((is_closed(BOLD, TWO), is_closed(DEEP, TWO)), (False, True))
        self.assert_same(three_and_one(BOLD, TWO), (A, FA, 0, FA, 1, FFA))
        self.assert_same(chain_out(DEEP, TWO), None)
        chain, line = chain_out(BOLD, TWO)
        self.assert_same(chain[line][0], "put")

    def test_closed_lots(self):
        closed = [(BOLD, LONG), (BOLD, FOUND), (DEEP, FAIR_DEEP), (BOLD, ONE), (BOLD, EVEN), (BOLD, ODD),
                  (BOLD, (2, (0, 1), EVEN[2])), (BOLD, (2, (0, 1), ((0, "a", ()), (1, "a", ())))),
                  (DEEP, TWO), (BOLD, (3, (1,), ((0, "a", ()), (1, "f", (0,)), (2, "f", (0,)))))]
        closed += [(book, grammar) for book in BOOKS for grammar in NOTHING]
        for book, grammar in closed:
            self.assert_same((is_closed(book, grammar), three_and_one(book, grammar)), (True, None))
            self.assert_same(chain_out(book, grammar), None)

    def test_starts_of_one_kind(self):
        grammar = (3, (0, 2), ((0, "a", ()), (1, "b", ()), (2, "g", (0, 1))))
        self.assert_same(is_closed(BOLD, grammar), False)
        self.check_three(BOLD, grammar, three_and_one(BOLD, grammar))
        self.check_chain(BOLD, grammar, chain_out(BOLD, grammar))

    def test_rules_that_are_not_turned(self):
        # f(a), f(b) and h(a): a and b stand at one place, but h(b) is missing.
        grammar = (4, (2, 3), ((0, "a", ()), (1, "b", ()), (2, "f", (0,)), (2, "f", (1,)), (3, "h", (0,))))
        book = (("depth", 1), ("groups", (("f", 1),), 0))
        self.assert_same(is_closed(book, grammar), True)
        book = (("groups", (("f", 1), ("h", 2)), 0),)
        self.assert_same(is_closed(book, grammar), False)
        told = three_and_one(book, grammar)
        self.check_three(book, grammar, told)
        self.assert_same(told[5], (("h", 1), ("b", 0)))
        self.check_chain(book, grammar, chain_out(book, grammar))

    def test_far_apart(self):
        """Two names that no short place parts."""
        for many in (1, 2, 12):
            last = many + 3
            rules = [(0, "a", ()), (1, "b", ()), (2, "h", (0,)), (2, "h", (1,))]
            rules += [(3, "f", (0,))] + [(k + 3, "f", (k + 2,)) for k in range(1, many + 1)]
            grammar = (last + 1, (2, last), tuple(sorted(set(rules))))
            book = (("groups", (("h", 1), ("f", 2)), 0),)
            self.assert_same(is_closed(book, grammar), False)
            told = three_and_one(book, grammar)
            self.check_three(book, grammar, told)
            self.assertEqual(len(told[5]), many + 2)
            self.check_chain(book, grammar, chain_out(book, grammar))

    def test_drawn_grammars(self):
        """None exactly together, and never where exchanges among short trees lead out of the lot."""
        told = {True: 0, False: 0}
        for book, grammar in drawn(420, 350, 6):
            closed = is_closed(book, grammar)
            told[closed] += 1
            three = three_and_one(book, grammar)
            self.assert_same((closed, three is None), (three is None, closed))
            lessons = lessons_of(book, grammar)
            if closed:
                lot = oracle.lot_among(grammar, FIVE)
                if len(lot) <= 60:
                    self.assertEqual([tree for tree in oracle.Lot(book, lot).fourths() if not takes(grammar, tree)], [])
            else:
                self.check_three(book, grammar, three)
            if len(lessons) <= 30 and sum(map(len, lessons)) <= 200:
                out = chain_out(book, grammar)
                self.assert_same(out is None, closed)
                if out is not None:
                    self.check_chain(book, grammar, out)
        self.assertGreater(min(told.values()), 15)

    def test_drawn_thin_grammars(self):
        """Held against exchanges among all trees of the lot of at most eight symbols."""
        told = {True: 0, False: 0}
        for book, grammar in drawn(421, 500, 8, THIN):
            lot = oracle.lot_among(grammar, THIN_TREES)
            fourths = sorted(oracle.Lot(book, lot).fourths())
            closed = is_closed(book, grammar)
            self.assert_same(closed, all([takes(grammar, tree) for tree in fourths]))
            told[closed] += 1
            if not closed:
                self.check_three(book, grammar, three_and_one(book, grammar))
                self.check_chain(book, grammar, chain_out(book, grammar))
        self.assertGreater(min(told.values()), 15)

    def test_wrong_grammars(self):
        for thing in WRONG_GRAMMARS:
            for function in (is_closed, three_and_one, chain_out):
                self.assert_not_usable("grammar", function, BOLD, thing)


class TestClosedDepths(Checks, unittest.TestCase):

    def test_examples(self):
        self.assert_same(closed_depth(TWO, 1), 1)
        self.assert_same(closed_depth(TWO, 0), None)

    def test_edges(self):
        for grammar in NOTHING + (ONE, LONG, FOUND, EVEN, ODD, (2, (0, 1), EVEN[2])):
            for most in (0, 1, 60):
                self.assert_same(closed_depth(grammar, most), 0)
        tall = tuple(sorted([(0, "a", ())] + [(k + 1, "f", (k,)) for k in range(39)]))
        for many in (1, 2, 10, 39):
            grammar = (40, (0, many), tall)
            self.assert_same((closed_depth(grammar, 60), closed_depth(grammar, 1), closed_depth(grammar, 0)), (1, 1, None))
        for many in (1, 2, 10, 38):
            grammar = (40, (many, 39), tall)
            self.assert_same((closed_depth(grammar, 60), closed_depth(grammar, many + 1)), (many + 1, many + 1))
            self.assert_same(closed_depth(grammar, many), None)

    def test_one_part_that_differs_is_enough(self):
        # g(f(f(a)), c) and g(f(f(b)), d), of which h takes the first alone: their second parts differ at once.
        rules = [(0, "a", ()), (1, "b", ()), (2, "f", (0,)), (3, "f", (1,)), (4, "f", (2,)), (5, "f", (3,)),
                 (6, "c", ()), (7, "d", ()), (8, "g", (4, 6)), (9, "g", (5, 7)), (10, "h", (8,))]
        grammar = (11, (8, 9, 10), tuple(sorted(rules)))
        self.assert_same((closed_depth(grammar, 60), closed_depth(grammar, 1)), (2, None))
        # With the same second parts the first ones tell them apart, three levels below the root.
        rules = [rule for rule in rules if rule[0] not in (7, 9)] + [(9, "g", (5, 6))]
        grammar = (11, (8, 9, 10), tuple(sorted(rules + [(7, "k", (8,))])))
        self.assert_same((closed_depth(grammar, 60), closed_depth(grammar, 3)), (4, None))
        told = [is_closed((("depth", depth),), grammar) for depth in range(6)]
        self.assert_same(told, [False] * 4 + [True] * 2)

    def test_closed_by_no_depth(self):
        # f as often as 3 divides none or leaves one: at no depth all cut trees tell which one it is.
        three = (3, (0, 1), ((0, "a", ()), (0, "f", (2,)), (1, "f", (0,)), (2, "f", (1,))))
        for most in (0, 1, 5, 60):
            self.assert_same(closed_depth(three, most), None)
        # Kinds would be endlessly many here, were they told one by one.
        wide = (2, (0, 1), tuple(sorted(three[2][:1] + tuple(
            ((one + two + 1) % 2, "g", (one, two)) for one in (0, 1) for two in (0, 1)))))
        self.assert_same(closed_depth(wide, 60), 0)
        wide = (3, (0, 1), tuple(sorted(three[2][:1] + tuple(
            ((one + two + 1) % 3, "g", (one, two)) for one in (0, 1, 2) for two in (0, 1, 2)))))
        self.assert_same(closed_depth(wide, 60), None)

    def test_drawn_grammars(self):
        seen = {0: 0, 1: 0, 2: 0, None: 0}
        for _, grammar in drawn(422, 250, 5):
            told = [depth for depth in range(3) if is_closed((("depth", depth),), grammar)]
            for most in range(3):
                wanted = [depth for depth in told if depth <= most]
                self.assert_same(closed_depth(grammar, most), wanted[0] if wanted else None)
            seen[told[0] if told else None] += 1
        for _, grammar in drawn(423, 700, 9, THIN):
            told = [depth for depth in range(7) if is_closed((("depth", depth),), grammar)]
            self.assert_same(closed_depth(grammar, 6), told[0] if told else None)
            seen[told[0] if told and told[0] < 3 else None] += 1
        self.assertGreater(min(seen.values()), 0)

    def test_fair_by_its_depth(self):
        self.assert_same(is_fair(DEEP, FAIR_DEEP), True)
        self.assert_same(closed_depth(FAIR_DEEP, 3), 0)

    def test_wrong_most(self):
        for thing in WRONG_NUMBERS:
            self.assert_not_usable("most", closed_depth, TWO, thing)
            self.assert_not_usable("most", closed_depth, EMPTY, thing)


if __name__ == "__main__":
    unittest.main()
