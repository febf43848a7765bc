"""What two lots have in common, and closures of lots: [68], [69] and [70]."""

import unittest

from stoodthere.closings import closing
from stoodthere.fairness import is_fair, is_plain
from stoodthere.leasttrees import least_trees
from stoodthere.lessons import lessons_of
from stoodthere.making import takes
from stoodthere.meets import met
from stoodthere.trims import plain_of
from stoodthere.unions import united
from tests import oracle
from tests.checks import Checks
from tests.samples import A, B, BOLD, BOOKS, DEEP, EMPTY, EVEN, FAIR_DEEP, FOUND, LONG, ODD, ONE, SMALL_SYMBOLS
from tests.samples import WRONG_GRAMMARS, Draw, drawn_driven, drawn_grammar, trees_up_to

SIX = trees_up_to(SMALL_SYMBOLS, 6)
FIVE = [tree for tree in SIX if len(tree) <= 5]
THIN = (("a", 0), ("b", 0), ("f", 1))
THIN_TREES = trees_up_to(THIN, 7)
TWO = (2, (0, 1), ((0, "a", ()), (1, "f", (0,))))
NOT_DRIVEN = ((2, (0,), ((0, "a", ()), (1, "a", ()))), (2, (0,), ((0, "f", (0, 1)), (1, "f", (0, 1)))))
# Names that make nothing, names that do not stand, and no start at all.
NOTHING = (EMPTY, (5, (), ()), (1, (0,), ()), (1, (), ((0, "a", ()),)), (2, (0, 1), ((0, "f", (1,)),)),
           (2, (1,), ((0, "a", ()), (1, "f", (1,)))))
BESIDE = (4, (1,), ((0, "a", ()), (0, "f", (0,)), (1, "b", ()), (1, "g", (2, 3)), (2, "f", (2,)), (3, "c", ())))
BS = (1, (0,), ((0, "b", ()),))


def loop(many, starts):
    """f over a, as often as one of starts tells, of many."""
    rules = ((0, "a", ()),) + tuple((k, "f", ((k - 1) % many,)) for k in range(many))
    return (many, tuple(starts), tuple(sorted(rules)))


class TestMet(Checks, unittest.TestCase):

    def check_pairs(self, driven, other, told):
        """A name for each pair that makes a piece of a common tree, making what both make, among small trees."""
        common = [tree for tree in oracle.lot_among(driven, SIX) if oracle.lot_among(other, [tree])]
        self.assertEqual(oracle.lot_among(told, SIX), common)
        pairs = {}
        for piece in oracle.all_pieces(common):
            whole = oracle.nested(piece)
            one, two, both = (oracle.names_of(grammar, whole) for grammar in (driven, other, told))
            self.assertEqual((len(one), len(two), len(both)), (1, 1, 1))
            pairs.setdefault((min(one), min(two)), set()).add(min(both))
        self.assertTrue(all(len(names) == 1 for names in pairs.values()))
        self.assertEqual(len({min(names) for names in pairs.values()}), len(pairs))

    def test_examples(self):
        self.assert_same(met(LONG, EVEN), (2, (0,), ((0, "a", ()), (0, "f", (1,)), (1, "f", (0,)))))
        self.assert_same(met(EVEN, ODD), EMPTY)
        self.assert_not_usable("other", met, LONG, (2, (0,), ((0, "a", ()), (1, "a", ()))))

    def test_edges(self):
        for grammar in (LONG, EVEN, ODD, FAIR_DEEP, FOUND, BESIDE, EMPTY):
            self.assert_same(met(grammar, grammar), plain_of(grammar))
            for empty in NOTHING:
                self.assert_same((met(grammar, empty), met(empty, grammar)), (EMPTY, EMPTY))
        self.assert_same((met(LONG, BS), met(FOUND, ONE), met(BESIDE, BS)), (EMPTY, EMPTY, BS))

    def test_names_are_pairs(self):
        self.assert_same(met(loop(2, [0]), loop(3, [0])), plain_of(loop(6, [0])))
        self.assert_same(met(loop(2, [0]), loop(3, [1, 2]))[:2], (6, (2, 4)))
        self.assert_same(met(loop(4, [1]), loop(6, [3]))[0], 12)
        self.assert_same(met(loop(4, [1]), loop(6, [2])), EMPTY)
        # All pairs of starts are starts, and what both do not stand with is left out.
        self.assert_same(met((2, (0, 1), EVEN[2]), LONG), (2, (0, 1), EVEN[2]))
        self.assert_same(met(TWO, LONG), TWO)

    def test_wide_rules(self):
        many = 25
        rules = [(k, "x" + str(k), ()) for k in range(many)]
        rules += [(k, "w", (k, (k + 1) % many, (k + 2) % many, (k + 3) % many)) for k in range(many)]
        grammar = (many, tuple(range(many)), tuple(sorted(rules)))
        all_in_one = (1, (0,), tuple(sorted([(0, "x" + str(k), ()) for k in range(many)] + [(0, "w", (0,) * 4)])))
        self.assert_same(met(all_in_one, grammar), plain_of(grammar))
        self.assert_same(met(grammar, all_in_one), plain_of(grammar))

    def test_drawn_grammars(self):
        draw = Draw(400)
        sizes = set()
        for _ in range(200):
            driven = drawn_driven(draw, 1 + draw.below(3), 3 + draw.below(7))
            other = drawn_driven(draw, 1 + draw.below(3), 3 + draw.below(7))
            told = met(driven, other)
            self.assert_same(is_plain(told), True)
            self.check_pairs(driven, other, told)
            self.assert_same(met(other, driven), told)
            # Each name comes with a least tree that both make.
            for tree in least_trees(told):
                for grammar in (driven, other):
                    self.assertEqual(len(oracle.names_of(grammar, oracle.nested(tree))), 1)
            sizes.add(told[0])
        self.assertLessEqual({0, 1, 2, 3}, sizes)

    def test_wrong_other(self):
        for thing in WRONG_GRAMMARS + NOT_DRIVEN:
            self.assert_not_usable("other", met, LONG, thing)
            self.assert_not_usable("other", met, EMPTY, thing)


class TestClosings(Checks, unittest.TestCase):

    def test_examples(self):
        self.assert_same(closing(BOLD, TWO), (1, (0,), ((0, "a", ()), (0, "f", (0,)))))
        self.assert_same(closing(DEEP, TWO), (2, (0, 1), ((0, "a", ()), (1, "f", (0,)))))
        self.assert_same(united(BOLD, EVEN, ODD), LONG)
        self.assert_same(united(DEEP, BS, TWO), (3, (0, 1, 2), ((0, "a", ()), (1, "b", ()), (2, "f", (0,)))))

    def test_empty_lots(self):
        for book in BOOKS[:3] + BOOKS[4:]:
            for empty in NOTHING:
                self.assert_same((closing(book, empty), united(book, empty, empty)), (EMPTY, EMPTY))
                for grammar in (LONG, TWO, BESIDE):
                    form = closing(book, grammar)
                    self.assert_same((united(book, grammar, empty), united(book, empty, grammar)), (form, form))

    def test_closed_lots_stay(self):
        for book, grammar in ((BOLD, LONG), (BOLD, FOUND), (DEEP, FAIR_DEEP), (BOLD, BS), (DEEP, BS), (BOLD, EVEN)):
            self.assert_same(closing(book, grammar), plain_of(grammar))
            self.assert_same(united(book, grammar, grammar), plain_of(grammar))
        # The lot is closed, but the grammar is not driven, and has names that do not stand.
        self.assert_same(closing(BOLD, (3, (0, 2), ((0, "a", ()), (1, "b", ()), (2, "a", ())))), ONE)

    def test_names_are_joined_by_each_sort_of_join(self):
        # Starts of one kind; then, as they are one, what they are made of; then what is made of that.
        pair = (4, (1, 3), ((0, "a", ()), (1, "f", (0,)), (2, "b", ()), (3, "f", (2,))))
        self.assert_same(closing(BOLD, pair), FOUND)
        wider = (7, (4, 5, 6), pair[2] + ((4, "g", (0, 0)), (5, "g", (1, 1)), (6, "g", (0, 2))))
        self.assertIs(takes(closing(BOLD, wider), (("g", 2),) + A + B), True)
        self.assert_same(closing(BOLD, wider)[0], 3)
        # By this book a and b are of unlike kinds: nothing is joined.
        book = (("groups", (("a", 1), ("b", 2)), 0), ("depth", 2))
        self.assert_same(closing(book, pair), (4, (2, 3), ((0, "a", ()), (1, "b", ()), (2, "f", (0,)), (3, "f", (1,)))))

    def test_lots_that_share_nothing(self):
        high = (2, (1,), ((0, "c", ()), (1, "h", (0,))))
        joined = (2, (0,), LONG[2] + ((0, "h", (1,)), (1, "c", ())))
        self.assert_same(united(BOLD, LONG, high), joined)
        told = united(DEEP, LONG, high)
        self.assert_same(told, united(DEEP, high, LONG))
        self.assertEqual(oracle.lot_among(told, trees_up_to((("a", 0), ("c", 0), ("f", 1), ("h", 1)), 3)),
                         [A, (("f", 1),) + A, (("h", 1), ("c", 0)), (("f", 1), ("f", 1)) + A])

    def check_closure(self, book, lots, told, trees, most):
        """told has, of all trees up to most symbols, those of the lots closed by exchanges among such trees."""
        self.assert_same((is_plain(told), is_fair(book, told)), (True, True))
        lot = [tree for tree in trees if len(tree) <= most and any(oracle.lot_among(one, [tree]) for one in lots)]
        grown = oracle.Lot(book, lot).closed_to(most)
        self.assertEqual(tuple(oracle.lot_among(told, [tree for tree in trees if len(tree) <= most])), grown)
        return len(grown) > len(lot)

    def test_drawn_grammars_thin(self):
        """All trees of at most seven symbols, of words with one part at most."""
        draw = Draw(401)
        grew = 0
        for k in range(240):
            book = BOOKS[k % len(BOOKS)]
            one = (drawn_driven if k % 2 else drawn_grammar)(draw, 1 + draw.below(4), 2 + draw.below(5), THIN)
            two = (drawn_driven if k % 3 else drawn_grammar)(draw, 1 + draw.below(3), 1 + draw.below(4), THIN)
            if max([len(tree) for lot in (one, two) for tree in lessons_of(book, lot)], default=0) <= 6:
                grew += self.check_closure(book, [one], closing(book, one), THIN_TREES, 7)
                grew += self.check_closure(book, [one, two], united(book, one, two), THIN_TREES, 7)
        self.assertGreater(grew, 20)

    def test_drawn_grammars(self):
        draw = Draw(402)
        grew = 0
        for k in range(400):
            book = BOOKS[k % len(BOOKS)]
            if book == (("depth", 60),):
                book = (("depth", 3),)
            one = (drawn_driven if k % 2 else drawn_grammar)(draw, 1 + draw.below(4), 2 + draw.below(4))
            if len(oracle.lot_among(one, FIVE)) > 40:
                continue
            if max([len(tree) for tree in lessons_of(book, one)], default=0) <= 5:
                grew += self.check_closure(book, [one], closing(book, one), FIVE, 5)
        self.assertGreater(grew, 2)

    def test_wrong_parameters(self):
        for thing in WRONG_GRAMMARS:
            self.assert_not_usable("grammar", closing, BOLD, thing)
            self.assert_not_usable("grammar", united, BOLD, thing, LONG)
            self.assert_not_usable("grammar", united, BOLD, thing, None)
            self.assert_not_usable("other", united, BOLD, LONG, thing)
        for grammar in NOT_DRIVEN:
            self.assertIs(type(united(BOLD, grammar, grammar)), tuple)


if __name__ == "__main__":
    unittest.main()
