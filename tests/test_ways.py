"""Ways along joins, and which joins a join needs: [43] and [44]."""

import unittest

from stoodthere.joinlists import joins_of
from stoodthere.ways import needed_of, way_of
from tests import oracle
from tests.checks import Checks
from tests.samples import A, B, BOLD, BOOKS, FA, FB, FFA, G, SMALL_TREES, WRONG_NUMBERS, WRONG_SENTENCES
from tests.samples import WRONG_TREES, Draw, drawn_sentences

THREE = (("root", A, FA, 0), ("root", A, FB, 0), ("down", FA, FB, 0))
GIVEN = (A, FA, FB)
GAB, GBA, GBB = (("g", 2),) + A + B, (("g", 2),) + B + A, (("g", 2),) + B + B
WRONG_JOINS = (None, True, 0, "", [], (None,), [THREE[0]], (THREE[0], THREE[0]), (THREE[2],), THREE[0], "root")


def ends_of_joins(book, given, joins):
    """The ends of each join, by the definition."""
    classes = oracle.Classes(book, given)
    ends = []
    for join in joins:
        ends.append(classes.ends(join))
        classes.make(join)
    return ends


def needed_by_hand(book, given, joins, number):
    """The numbers of [44], one join after the other, with ways by the definition."""
    ends = ends_of_joins(book, given, joins)
    needed = {number}
    while True:
        more = set(needed)
        for k in needed:
            word, one, two, part = joins[k]
            pairs = []
            if word != "root":
                parts = [[oracle.flat(child) for child in oracle.nested(tree)[1]] for tree in (one, two)]
                pairs = [pair for at, pair in enumerate(zip(*parts)) if word == "up" or at != part]
            if word == "down":
                pairs.append((one, two))
            for pair in pairs:
                more |= set(oracle.way(ends, *pair))
        if more == needed:
            return tuple(sorted(needed))
        needed = more


class TestWays(Checks, unittest.TestCase):

    def test_examples(self):
        self.assert_same(way_of(BOLD, GIVEN, THREE, FA, B), (0, 2))
        self.assert_same(way_of(BOLD, GIVEN, (), FA, B), None)

    def test_the_same_piece(self):
        for joins in ((), THREE):
            for piece in (A, B, FA, FB):
                self.assert_same(way_of(BOLD, GIVEN, joins, piece, piece), ())

    def test_ways_there_and_back(self):
        for one, two, way in ((A, FA, (0,)), (A, FB, (1,)), (A, B, (2,)), (FB, B, (1, 2)), (FA, FB, (0, 1))):
            self.assert_same(way_of(BOLD, GIVEN, THREE, one, two), way)
            self.assert_same(way_of(BOLD, GIVEN, THREE, two, one), way[::-1])
        self.assert_same(way_of(BOLD, GIVEN, THREE[:2], A, B), None)
        groups = (("groups", (("f", 1),), 0),)
        self.assert_same(way_of(groups, GIVEN, (("root", FA, FB, 0), ("down", FA, FB, 0)), A, B), (1,))

    def test_long_way(self):
        words = tuple((("a" + str(k), 0),) for k in range(60))
        joins = tuple(("root", words[k + 1], words[k], 0) for k in range(59))
        self.assert_same(way_of(BOLD, words, joins, words[0], words[59]), tuple(range(59)))
        self.assert_same(way_of(BOLD, words, joins, words[50], words[20]), tuple(range(49, 19, -1)))
        self.assert_same(way_of(BOLD, words, joins[:30] + joins[31:], words[0], words[59]), None)

    def test_ends_of_ups_and_downs(self):
        given = (A, B, GAB, GBB)
        joins = (("root", GAB, GBB, 0), ("down", GBB, GAB, 0))
        self.assert_same(way_of(BOLD, given, joins, A, B), (1,))
        self.assert_same(way_of(BOLD, given, joins, GBB, GAB), (0,))
        joins = (("root", B, A, 0), ("up", GAB, GBB, 0), ("root", GBB, A, 0))
        self.assert_same(way_of(BOLD, given, joins, GAB, B), (1, 2, 0))

    def test_drawn_joins(self):
        draw = Draw(150)
        for book in BOOKS:
            for _ in range(6):
                given = drawn_sentences(draw, 1 + draw.below(4), SMALL_TREES[:60])
                joins, classes = oracle.saturated(book, given, draw)
                for some in (joins, joins[:draw.below(len(joins) + 1)], joins_of(book, given)):
                    ends = ends_of_joins(book, given, some)
                    for one in classes.pieces:
                        two = draw.one_of(classes.pieces)
                        self.assert_same(way_of(book, given, some, one, two), oracle.way(ends, one, two))

    def test_wrong_parameters(self):
        for thing in WRONG_SENTENCES:
            self.assert_not_usable("given", way_of, BOLD, thing, THREE, FA, B)
            self.assert_not_usable("given", way_of, BOLD, thing, None, None, None)
        for thing in WRONG_JOINS:
            self.assert_not_usable("joins", way_of, BOLD, GIVEN, thing, FA, B)
            self.assert_not_usable("joins", way_of, BOLD, GIVEN, thing, None, None)
        for thing in WRONG_TREES + (FFA, G):
            self.assert_not_usable("tree", way_of, BOLD, GIVEN, THREE, thing, B)
            self.assert_not_usable("tree", way_of, BOLD, GIVEN, THREE, thing, None)
            self.assert_not_usable("other", way_of, BOLD, GIVEN, THREE, FA, thing)
        self.assert_not_usable("tree", way_of, BOLD, (), (), A, A)


class TestNeeded(Checks, unittest.TestCase):

    def test_examples(self):
        self.assert_same(needed_of(BOLD, GIVEN, THREE, 2), (0, 1, 2))

    def test_roots_need_none(self):
        self.assert_same((needed_of(BOLD, GIVEN, THREE, 0), needed_of(BOLD, GIVEN, THREE, 1)), ((0,), (1,)))

    def test_what_a_needed_one_needs_is_needed(self):
        ffb = (("f", 1),) + FB
        given = (A, B, FFA, ffb)
        joins = (("root", FFA, A, 0), ("root", A, B, 0), ("up", FA, FB, 0), ("up", FFA, ffb, 0))
        self.assert_same(needed_of(BOLD, given, joins, 3), (1, 2, 3))
        self.assert_same(needed_of(BOLD, given, joins, 2), (1, 2))
        joins = (("root", A, FFA, 0), ("root", FFA, ffb, 0), ("down", FFA, ffb, 0), ("down", FA, FB, 0))
        self.assert_same([needed_of(BOLD, given, joins, k) for k in range(4)], [(0,), (1,), (1, 2), (1, 2, 3)])

    def test_downs_need_the_other_parts_alone(self):
        given = (A, B, GAB, GBA, GBB)
        joins = (("root", A, B, 0), ("root", GAB, GBA, 0), ("root", GBB, GBA, 0))
        # The parts of g(a,b) and g(b,a) are joined by the first one: an "up" of them needs it, and no more.
        up = joins[:1] + (("up", GAB, GBA, 0),)
        self.assert_same(needed_of(BOLD, given, up, 1), (0, 1))
        other = (joins[1], joins[2], ("down", GBB, GBA, 1))
        self.assert_same(needed_of(BOLD, given, other, 2), (1, 2))
        hab, hba = (("h", 2),) + FA + B, (("h", 2),) + FB + A
        given = (A, B, hab, hba)
        joins = (("root", A, B, 0), ("root", hab, hba, 0), ("down", hab, hba, 0))
        self.assert_same(needed_of(BOLD, given, joins, 2), (0, 1, 2))
        joins = (("root", hab, hba, 0), ("root", A, hba, 0), ("root", B, A, 0), ("down", hab, hba, 0))
        self.assert_same(needed_of(BOLD, given, joins, 3), (0, 2, 3))

    def test_ups_need_the_ways_of_their_parts_alone(self):
        """A part that is the same piece has the way ()."""
        given = (GAB, GBB, A, B)
        joins = (("root", A, B, 0), ("root", GAB, A, 0), ("up", GAB, GBB, 0))
        self.assert_same(needed_of(BOLD, given, joins, 2), (0, 2))

    def test_drawn_joins(self):
        draw = Draw(151)
        for book in BOOKS:
            for _ in range(8):
                given = drawn_sentences(draw, 2 + draw.below(3), SMALL_TREES[:60])
                for joins in (oracle.saturated(book, given, draw)[0], joins_of(book, given)):
                    for number in range(len(joins)):
                        wanted = needed_by_hand(book, given, joins, number)
                        self.assert_same(needed_of(book, given, joins, number), wanted)

    def test_wrong_parameters(self):
        for thing in WRONG_SENTENCES:
            self.assert_not_usable("given", needed_of, BOLD, thing, THREE, 0)
            self.assert_not_usable("given", needed_of, BOLD, thing, None, None)
        for thing in WRONG_JOINS:
            self.assert_not_usable("joins", needed_of, BOLD, GIVEN, thing, 0)
            self.assert_not_usable("joins", needed_of, BOLD, GIVEN, thing, None)
        for thing in WRONG_NUMBERS + (3, 4, 10 ** 59):
            self.assert_not_usable("number", needed_of, BOLD, GIVEN, THREE, thing)
        self.assert_not_usable("number", needed_of, BOLD, GIVEN, (), 0)


if __name__ == "__main__":
    unittest.main()
