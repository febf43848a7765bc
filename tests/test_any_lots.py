"""Grammars of any sort: their sets of names, how their lots part, and canons: [71], [72] and [73]."""

import unittest

from stoodthere.canons import canon_of
from stoodthere.fairness import is_plain
from stoodthere.outsides import is_same_lot, outside_of
from stoodthere.partings import parting_of
from stoodthere.setforms import by_sets
from stoodthere.trims import plain_of
from tests import oracle
from tests.checks import Checks
from tests.samples import A, B, BOLD, BOOKS, DEEP, EMPTY, EVEN, FA, FAIR_DEEP, FB, FFA, FOUND, LONG, ODD, ONE
from tests.samples import SMALL_SYMBOLS, WRONG_GRAMMARS, Draw, drawn_driven, drawn_grammar, trees_up_to

SIX = trees_up_to(SMALL_SYMBOLS, 6)
FIVE = [tree for tree in SIX if len(tree) <= 5]
THIN = (("a", 0), ("b", 0), ("f", 1))
THIN_TREES = trees_up_to(THIN, 8)
BOTH_EVEN = (2, (0, 1), EVEN[2])
NOTHING = (EMPTY, (5, (), ()), (1, (0,), ()), (1, (), ((0, "a", ()),)), (2, (0, 1), ((0, "f", (1,)),)),
           (2, (1,), ((0, "a", ()), (1, "f", (1,)))))
BESIDE = (4, (1,), ((0, "a", ()), (0, "f", (0,)), (1, "b", ()), (1, "g", (2, 3)), (2, "f", (2,)), (3, "c", ())))


def set_of(grammar, tree):
    return tuple(sorted(oracle.names_of(grammar, oracle.nested(tree))))


def last_but(many):
    """Words with an f just so many ahead of the last sign a: sets of names are needed to tell that one by one."""
    rules = [(0, "a", ())] + [(k + 1, word, (k,)) for k in range(1, many) for word in ("f", "h")]
    rules += [(0, "f", (0,)), (0, "h", (0,)), (1, "f", (0,))]
    return (many + 1, (many,), tuple(sorted(rules)))


class TestSets(Checks, unittest.TestCase):

    def check_sets(self, grammar, told, trees):
        self.assert_same(is_plain(told), True)
        lot = oracle.lot_among(grammar, trees)
        self.assertEqual(oracle.lot_among(told, trees), lot)
        name_by_set = {}
        for piece in oracle.all_pieces(lot):
            names = set_of(told, piece)
            self.assertEqual(len(names), 1)
            self.assertEqual(name_by_set.setdefault(set_of(grammar, piece), names), names)
        self.assertEqual(len(set(name_by_set.values())), len(name_by_set))
        # A name makes trees with this set alone, wherever they stand.
        for piece in trees[:200]:
            if set_of(told, piece):
                self.assertEqual(name_by_set.get(set_of(grammar, piece), set_of(told, piece)), set_of(told, piece))

    def test_example(self):
        self.assert_same(by_sets((2, (0,), ((0, "a", ()), (0, "b", ()), (1, "b", ())))),
                         (2, (0, 1), ((0, "a", ()), (1, "b", ()))))

    def test_edges(self):
        for grammar in NOTHING:
            self.assert_same(by_sets(grammar), EMPTY)
        for grammar in (ONE, LONG, EVEN, ODD, FAIR_DEEP, FOUND, (1, (0,), ((0, "b", ()),))):
            self.assert_same(by_sets(grammar), plain_of(grammar))
        self.assert_same(by_sets(BESIDE), (1, (0,), ((0, "b", ()),)))
        # The same grammar twice: each tree has two names, which are one set.
        twice = (2, (0, 1), ((0, "a", ()), (0, "f", (0,)), (1, "a", ()), (1, "f", (1,))))
        self.assert_same(by_sets(twice), LONG)

    def test_names_that_do_not_stand_tell_sets_apart(self):
        self.assert_same(by_sets((3, (0,), ((0, "a", ()), (0, "b", ()), (0, "f", (0,)), (2, "b", ()), (2, "f", (2,))))),
                         (2, (0, 1), ((0, "a", ()), (0, "f", (0,)), (1, "b", ()), (1, "f", (1,)))))
        # A name that makes nothing is in no set.
        self.assert_same(by_sets((2, (0,), ((0, "a", ()), (0, "b", ()), (1, "g", (0, 1))))),
                         (1, (0,), ((0, "a", ()), (0, "b", ()))))

    def test_many_sets(self):
        for many in (2, 3, 6):
            told = by_sets(last_but(many))
            self.assertEqual(told[0], 2 ** many)
            self.assert_same(is_plain(told), True)
        tree = (("f", 1), ("h", 1), ("h", 1), ("a", 0))
        self.assertEqual(len(set_of(by_sets(last_but(3)), tree)), 1)

    def test_wide_rules(self):
        many = 16
        rules = [(k, "x" + str(k), ()) for k in range(many)]
        rules += [(k, "w", (k, (k + 1) % many, (k + 2) % many, (k + 3) % many)) for k in range(many)]
        grammar = (many, tuple(range(many)), tuple(sorted(rules)))
        self.assert_same(by_sets(grammar), plain_of(grammar))

    def test_drawn_grammars(self):
        draw = Draw(410)
        for k in range(200):
            grammar = drawn_grammar(draw, 1 + draw.below(4), 3 + draw.below(9))
            self.check_sets(grammar, by_sets(grammar), SIX)
        for k in range(100):
            grammar = drawn_grammar(draw, 1 + draw.below(6), 3 + draw.below(12), THIN)
            self.check_sets(grammar, by_sets(grammar), THIN_TREES)


class TestOutsides(Checks, unittest.TestCase):

    def test_examples(self):
        self.assert_same(outside_of(LONG, EVEN), FA)
        self.assert_same(outside_of(EVEN, LONG), None)
        self.assert_same(is_same_lot(LONG, BOTH_EVEN), True)
        self.assert_same(is_same_lot(EVEN, LONG), False)

    def test_edges(self):
        for empty in NOTHING:
            self.assert_same((outside_of(LONG, empty), outside_of(FOUND, empty)), (A, FA))
            self.assert_same((is_same_lot(empty, EMPTY), is_same_lot(EMPTY, empty)), (True, True))
            self.assert_same((is_same_lot(empty, ONE), is_same_lot(ONE, empty)), (False, False))
            for grammar in (LONG, BESIDE, (2, (0,), ((0, "a", ()), (1, "a", ())))):
                self.assert_same(outside_of(EMPTY, grammar), None)
        for grammar in (LONG, EVEN, FOUND, BESIDE, FAIR_DEEP):
            self.assert_same((outside_of(grammar, grammar), is_same_lot(grammar, grammar)), (None, True))

    def test_long_least_trees(self):
        """What a grammar misses may be long: f as often as 7 divides none but all of 3, 5 and 7."""
        rules, starts, first = [], [], 0
        for many in (3, 5, 7):
            rules += [(first, "a", ())] + [(first + (k + 1) % many, "f", (first + k,)) for k in range(many)]
            starts += [first + k for k in range(many) if k != 0]
            first += many
        grammar = (first, tuple(starts), tuple(sorted(rules)))
        self.assert_same(outside_of(LONG, grammar), A)
        with_a = (first + 1, tuple(starts) + (first,), tuple(sorted(rules + [(first, "a", ())])))
        self.assert_same(outside_of(LONG, with_a), (("f", 1),) * 105 + A)
        self.assert_same(is_same_lot(LONG, with_a), False)

    def test_drawn_grammars(self):
        draw = Draw(411)
        seen = set()
        for k in range(300):
            driven = drawn_driven(draw, 1 + draw.below(3), 2 + draw.below(8))
            grammar = drawn_grammar(draw, 1 + draw.below(4), 2 + draw.below(9))
            if draw.below(2):
                # Each rule of driven, and some more: its lot lies within.
                more = set(driven[2]) | {rule for rule in grammar[2] if max((rule[0],) + rule[2]) < driven[0]}
                grammar = (driven[0], driven[1], tuple(sorted(more)))
            told = outside_of(driven, grammar)
            outside = [tree for tree in oracle.lot_among(driven, SIX) if not oracle.lot_among(grammar, [tree])]
            if outside:
                self.assert_same(told, outside[0])
            elif told is not None:
                self.assertGreater(len(told), 6)
                self.assertTrue(oracle.lot_among(driven, [told]) and not oracle.lot_among(grammar, [told]))
            seen.add((told is None, len(oracle.lot_among(grammar, SIX)) > 10))
            same = is_same_lot(driven, grammar)
            self.assert_same(same, told is None and outside_of(by_sets(grammar), driven) is None)
            self.assert_same(is_same_lot(grammar, driven), same)
            self.assert_same(told, parting_of(driven, by_sets(grammar)))
        self.assertEqual(len(seen), 4)

    def test_wrong_parameters(self):
        for thing in WRONG_GRAMMARS:
            self.assert_not_usable("grammar", outside_of, LONG, thing)
            self.assert_not_usable("grammar", outside_of, EMPTY, thing)
            self.assert_not_usable("other", is_same_lot, LONG, thing)
            self.assert_not_usable("other", is_same_lot, EMPTY, thing)


class TestCanons(Checks, unittest.TestCase):

    def places_in(self, lot):
        """For each piece of the trees of a lot all its places in them."""
        places = {}
        for tree in lot:
            for node, piece in enumerate(oracle.nodes(oracle.nested(tree))):
                places.setdefault(piece, set()).add(oracle.place(tree, node))
        return places

    def test_examples(self):
        self.assert_same(canon_of(BOLD, BOTH_EVEN), (1, (0,), ((0, "a", ()), (0, "f", (0,)))))
        self.assert_same(canon_of(DEEP, LONG), (2, (0, 1), ((0, "a", ()), (1, "f", (0,)), (1, "f", (1,)))))

    def test_edges(self):
        for book in BOOKS[:3] + BOOKS[4:]:
            for grammar in NOTHING:
                self.assert_same(canon_of(book, grammar), EMPTY)
            self.assert_same(canon_of(book, (1, (0,), ((0, "b", ()),))), (1, (0,), ((0, "b", ()),)))
            self.assert_same(canon_of(book, BESIDE), (1, (0,), ((0, "b", ()),)))
            self.assert_same(canon_of(book, (3, (0, 2), ((0, "a", ()), (1, "b", ()), (2, "a", ())))), ONE)

    def test_not_closed(self):
        # f(a) and a stand at different places, so they have two names, whatever the book.
        two = (2, (0, 1), ((0, "a", ()), (1, "f", (0,))))
        for book in BOOKS:
            self.assert_same(canon_of(book, two), two)
        self.assert_same(canon_of(BOLD, EVEN), EVEN)
        self.assert_same(canon_of(DEEP, EVEN)[0], 3)

    def test_kinds_alone(self):
        book = (("groups", (("a", 1),), 0),)
        both = (1, (0,), ((0, "a", ()), (0, "b", ()), (0, "f", (0,))))
        self.assert_same(canon_of(BOLD, both), both)
        wanted = ((0, "a", ()), (1, "b", ()), (1, "f", (0,)), (1, "f", (1,)))
        self.assert_same(canon_of(book, both), (2, (0, 1), wanted))

    def test_finite_lots(self):
        """All trees of the lot are told: kinds and places are compared by the definition."""
        draw = Draw(412)
        sizes = set()
        for k in range(240):
            book = BOOKS[k % len(BOOKS)]
            lot = draw.some_of(FIVE, 1 + draw.below(7))
            pieces = oracle.all_pieces(lot)
            number = {piece: name for name, piece in enumerate(pieces)}
            rules = [(number[piece], piece[0][0], tuple(number[oracle.flat(part)] for part in oracle.nested(piece)[1]))
                     for piece in pieces]
            grammar = (len(pieces), tuple(sorted(number[tree] for tree in lot)), tuple(sorted(rules)))
            told = canon_of(book, grammar)
            self.assert_same(is_plain(told), True)
            self.assertEqual(oracle.lot_among(told, FIVE), list(oracle.ordered(lot)))
            places = self.places_in(lot)
            marks = {}
            for piece in pieces:
                mark = (oracle.kind(book, piece), tuple(sorted(places[piece])))
                self.assertEqual(marks.setdefault(mark, set_of(told, piece)), set_of(told, piece))
            self.assertEqual(len(set(marks.values())), len(marks))
            self.assertEqual(len(marks), told[0])
            sizes.add(len(pieces) - told[0])
        self.assertLessEqual({0, 1, 2}, sizes)

    def test_endless_lots(self):
        """Pieces with one name are of one kind and stand at the same places; others do not, which short trees show."""
        draw = Draw(413)
        for k in range(150):
            book = BOOKS[k % len(BOOKS)]
            if book == (("depth", 60),):
                book = (("depth", 2),)
            grammar = (drawn_driven if k % 2 else drawn_grammar)(draw, 1 + draw.below(2), 3 + draw.below(5), THIN)
            told = canon_of(book, grammar)
            self.assert_same(is_plain(told), True)
            lot = oracle.lot_among(grammar, THIN_TREES)
            self.assertEqual(oracle.lot_among(told, THIN_TREES), lot)
            places = self.places_in(lot)
            small = [piece for piece in places if len(piece) <= 3]
            for one in small:
                for two in small:
                    reach = 8 - max(len(one), len(two))
                    alike = oracle.kind(book, one) == oracle.kind(book, two) and all(
                        place in places[two] for place in places[one] if sum(map(len, place)) <= reach
                    ) and all(place in places[one] for place in places[two] if sum(map(len, place)) <= reach)
                    self.assertEqual(set_of(told, one) == set_of(told, two), alike)

    def test_wrong_grammars(self):
        for thing in WRONG_GRAMMARS:
            self.assert_not_usable("grammar", canon_of, BOLD, thing)


if __name__ == "__main__":
    unittest.main()
