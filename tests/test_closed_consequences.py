"""What follows from the points on two lots and on any lot: each sentence of [75], and what [11] says of them."""

import unittest

from stoodthere.books import paired
from stoodthere.canons import canon_of
from stoodthere.closedtests import is_closed
from stoodthere.closings import closing
from stoodthere.fairness import is_fair, is_plain
from stoodthere.found import grammar_of
from stoodthere.lessons import lessons_of
from stoodthere.maps import within_map
from stoodthere.meets import met
from stoodthere.outsides import is_same_lot, outside_of
from stoodthere.setforms import by_sets
from stoodthere.splits import split_of
from stoodthere.trims import teaching_number
from stoodthere.unions import united
from tests.checks import Checks
from tests.samples import BOLD, BOOKS, DEEP, EMPTY, EVEN, FAIR_DEEP, FOUND, LONG, ODD, ONE, Draw, drawn_driven
from tests.samples import drawn_grammar, drawn_sentences

NOTHING = (EMPTY, (5, (), ()), (1, (0,), ()), (1, (), ((0, "a", ()),)), (2, (0, 1), ((0, "f", (1,)),)))
FEW_BOOKS = tuple((("depth", 2),) if book == (("depth", 60),) else book for book in BOOKS)


def drawn_any(draw, k):
    return (drawn_driven if k % 2 else drawn_grammar)(draw, 1 + draw.below(3), 2 + draw.below(6))


def drawn_fair(draw, book):
    """A plain grammar that is fair for book."""
    return grammar_of(book, drawn_sentences(draw, 1 + draw.below(5)))


class TestConsequences(Checks, unittest.TestCase):

    def test_empty_lots(self):
        for book in FEW_BOOKS:
            for empty in NOTHING:
                self.assert_same((closing(book, empty), canon_of(book, empty)), (EMPTY, EMPTY))
                self.assert_same((united(book, empty, EMPTY), by_sets(empty), met(empty, LONG)), (EMPTY, EMPTY, EMPTY))
                self.assert_same((outside_of(empty, LONG), is_closed(book, empty)), (None, True))

    def test_what_fair_grammars_of_two_books_have_in_common(self):
        draw = Draw(430)
        kept = 0
        for k in range(150):
            one, two = draw.one_of(FEW_BOOKS), draw.one_of(FEW_BOOKS)
            told = met(drawn_fair(draw, one), drawn_fair(draw, two))
            self.assert_same((is_plain(told), is_fair(paired(one, two), told)), (True, True))
            kept += told != EMPTY
        self.assertGreater(kept, 20)
        self.assert_same(is_fair(paired(BOLD, DEEP), met(LONG, FAIR_DEEP)), True)
        self.assert_same(is_fair(BOLD, met(EVEN, LONG)), True)

    def test_closing(self):
        draw = Draw(431)
        for k in range(200):
            book = FEW_BOOKS[k % len(FEW_BOOKS)]
            grammar = drawn_any(draw, k)
            told = closing(book, grammar)
            self.assert_same((is_plain(told), is_fair(book, told)), (True, True))
            lessons = lessons_of(book, grammar)
            if sum(map(len, lessons)) <= 250:
                self.assert_same(grammar_of(book, lessons), told)
            # It depends on the lot alone.
            self.assert_same(closing(book, by_sets(grammar)), told)
            self.assert_same(closing(book, canon_of(book, grammar)), told)
            self.assert_same((closing(book, told), canon_of(book, told)), (told, told))
            self.assertLessEqual(teaching_number(told), teaching_number(split_of(book, grammar)[0]))
            self.assertLessEqual(len(lessons), teaching_number(split_of(book, grammar)[0]))

    def test_united(self):
        draw = Draw(432)
        held = 0
        for k in range(200):
            book = FEW_BOOKS[k % len(FEW_BOOKS)]
            one, two = drawn_any(draw, k), drawn_any(draw, k // 2)
            both = united(book, one, two)
            self.assert_same((is_plain(both), is_fair(book, both)), (True, True))
            self.assert_same(united(book, two, one), both)
            closed = closing(book, one), closing(book, two)
            self.assert_same(united(book, one, one), closed[0])
            self.assert_same(united(book, closed[0], closed[1]), both)
            self.assertLessEqual(teaching_number(both), teaching_number(closed[0]) + teaching_number(closed[1]))
            for part in closed:
                self.assertIsNotNone(within_map(book, part, both))
            # Any fair grammar that holds both lots holds that of the union.
            third = united(book, both, drawn_fair(draw, book)) if k % 3 else drawn_fair(draw, book)
            if all(within_map(book, part, third) is not None for part in closed):
                held += both != third
                self.assertIsNotNone(within_map(book, both, third))
        self.assertGreater(held, 20)

    def test_plain_and_fair_grammars_absorb_each_other(self):
        draw = Draw(433)
        for k in range(150):
            book = FEW_BOOKS[k % len(FEW_BOOKS)]
            one, two = drawn_fair(draw, book), drawn_fair(draw, book)
            self.assert_same(united(book, one, met(one, two)), one)
            self.assert_same(met(one, united(book, one, two)), one)

    def test_same_lots_have_the_same_canon(self):
        draw = Draw(434)
        same = 0
        for k in range(200):
            book = FEW_BOOKS[k % len(FEW_BOOKS)]
            one, two = drawn_any(draw, k), drawn_any(draw, k // 2)
            if k % 4 == 0:
                two = closing(book, one)
            elif k % 4 == 1:
                two = (one[0], one[1], tuple(sorted(set(one[2]) | set(draw.some_of(one[2], 2)))))
            told = is_same_lot(one, two)
            same += told
            self.assert_same(canon_of(book, one) == canon_of(book, two), told)
            self.assert_same(is_same_lot(one, canon_of(book, one)), True)
            self.assert_same(outside_of(canon_of(book, one), one), None)
        self.assertTrue(40 < same < 160, same)

    def test_closed_lots(self):
        draw = Draw(435)
        closed = 0
        for k in range(250):
            book = FEW_BOOKS[k % len(FEW_BOOKS)]
            grammar = drawn_any(draw, k)
            told = is_closed(book, grammar)
            closed += told
            self.assert_same(is_fair(book, canon_of(book, grammar)), told)
            self.assert_same(is_same_lot(closing(book, grammar), grammar), told)
            if told:
                self.assert_same(canon_of(book, grammar), closing(book, grammar))
            self.assert_same(is_closed(book, closing(book, grammar)), True)
        self.assertTrue(20 < closed < 230, closed)

    def test_closed_by_a_lesser_depth(self):
        draw = Draw(436)
        for k in range(120):
            told = [is_closed((("depth", depth),), drawn) for drawn in [drawn_any(draw, k)] for depth in range(3)]
            self.assertEqual(told, sorted(told))
        for grammar in (LONG, EVEN, ODD, FOUND, ONE, (2, (0, 1), ((0, "a", ()), (1, "f", (0,))))):
            told = [is_closed((("depth", depth),), grammar) for depth in range(12)]
            self.assertEqual(told, sorted(told))


if __name__ == "__main__":
    unittest.main()
