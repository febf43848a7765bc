"""Split grammars, where their names stand, and lessons: [57] and [58]."""

import unittest

from stoodthere.homes import homes_of
from stoodthere.lessons import lessons_of, rule_lessons
from stoodthere.pieces import with_piece
from stoodthere.splits import split_of
from tests import oracle
from tests.checks import Checks
from tests.samples import A, B, BOLD, BOOKS, DEEP, EMPTY, EVEN, FA, FAIR_DEEP, FB, FFA, FOUND, LONG, MIX, ODD, ONE
from tests.samples import SMALL_SYMBOLS, WRONG_GRAMMARS, Draw, drawn_driven, drawn_grammar, trees_up_to

SIX = trees_up_to(SMALL_SYMBOLS, 6)
SEVEN = trees_up_to(SMALL_SYMBOLS, 7)
KIND_F = (("f", 1), ("_", 0))
DEAD = (4, (1, 3), ((0, "a", ()), (1, "f", (0,)), (2, "f", (2,)), (3, "g", (0, 2))))
NOTHING = (EMPTY, (5, (), ()), (1, (0,), ()), (1, (), ((0, "a", ()),)), (2, (0, 1), ((0, "f", (1,)),)))


class TestSplits(Checks, unittest.TestCase):

    def test_examples(self):
        told, pairs = split_of(DEEP, LONG)
        self.assert_same(told, FAIR_DEEP)
        self.assert_same(pairs, ((0, (A,)), (0, (KIND_F,))))

    def test_empty_lots(self):
        for book in BOOKS:
            for grammar in NOTHING:
                self.assert_same(split_of(book, grammar), (EMPTY, ()))

    def test_by_the_boldest_book_it_is_trimmed(self):
        grammar = (3, (2,), ((0, "b", ()), (1, "f", (2,)), (2, "a", ())))
        self.assert_same(split_of(BOLD, grammar), (ONE, ((2, ((("_", 0),),)),)))
        self.assert_same(split_of(BOLD, DEAD)[0], (2, (1,), ((0, "a", ()), (1, "f", (0,)))))

    def test_pairs_are_ascending(self):
        grammar = (2, (0, 1), ((0, "b", ()), (0, "f", (1,)), (1, "a", ()), (1, "f", (0,))))
        pairs = ((0, (B,)), (0, (KIND_F,)), (1, (A,)), (1, (KIND_F,)))
        rules = ((0, "b", ()), (1, "f", (2,)), (1, "f", (3,)), (2, "a", ()), (3, "f", (0,)), (3, "f", (1,)))
        self.assert_same(split_of(DEEP, grammar), ((4, (0, 1, 2, 3), rules), pairs))

    def test_all_kinds_of_a_name_that_stands_do_stand(self):
        grammar = (2, (1,), ((0, "a", ()), (0, "f", (0,)), (1, "g", (0, 0))))
        told, pairs = split_of(DEEP, grammar)
        self.assert_same((told[0], told[1], len(told[2])), (3, (2,), 7))
        self.assert_same(pairs, ((0, (A,)), (0, (KIND_F,)), (1, ((("g", 2), ("_", 0), ("_", 0)),))))
        # By this table all of f, however often, is of one kind.
        table = (("table", (("a", (), 1), ("f", (1,), 2), ("f", (2,), 2)), 0),)
        self.assert_same(split_of(table, grammar)[1], ((0, (1,)), (0, (2,)), (1, (0,))))

    def test_drawn_grammars(self):
        draw = Draw(250)
        for k in range(240):
            book = BOOKS[k % len(BOOKS)]
            if book == (("depth", 60),):
                book = (("depth", 3),)
            grammar = (drawn_driven if k % 3 else drawn_grammar)(draw, 1 + draw.below(3), 2 + draw.below(6))
            if self.is_small(book, grammar):
                self.assert_same(split_of(book, grammar), oracle.split(book, grammar))

    def is_small(self, book, grammar):
        """By a depth of 2 or more a "g" alone may have very many kinds."""
        return max([simple[1] for simple in book if simple[0] == "depth"], default=0) < 2 or not any(
            word == "g" for _, word, _ in grammar[2])

    def test_wrong_grammar(self):
        for thing in WRONG_GRAMMARS:
            for function in (split_of, homes_of, rule_lessons, lessons_of):
                self.assert_not_usable("grammar", function, BOLD, thing)
                self.assert_not_usable("grammar", function, MIX, thing)


class TestHomes(Checks, unittest.TestCase):

    def test_examples(self):
        self.assert_same(homes_of(BOLD, (2, (1,), ((0, "a", ()), (1, "f", (0,))))), (((("f", 1),), ()), ((), ())))

    def test_empty_lots(self):
        for grammar in NOTHING:
            self.assert_same((homes_of(DEEP, grammar), homes_of(BOLD, grammar)), ((), ()))

    def test_starts(self):
        for book, grammar in ((BOLD, LONG), (DEEP, LONG), (DEEP, FAIR_DEEP)):
            self.assert_same(homes_of(book, grammar), (((), ()),) * split_of(book, grammar)[0][0])
        self.assert_same(homes_of(BOLD, ODD), (((("f", 1),), ()), ((), ())))

    def test_fewest_symbols_of_both_sides(self):
        rules = ((0, "a", ()), (1, "b", ()), (1, "f", (1,)), (2, "c", ()), (3, "w", (1, 0, 2, 1)), (3, "k", (4,)),
                 (4, "k", (5,)), (5, "k", (2,)))
        homes = homes_of(BOLD, (6, (3,), tuple(sorted(rules))))
        self.assert_same(homes[0], ((("w", 4), ("b", 0)), (("c", 0), ("b", 0))))
        self.assert_same([len(front) + len(back) for front, back in homes], [4, 4, 3, 0, 1, 2])
        self.assert_same(homes[2], ((("k", 1),) * 3, ()))

    def test_drawn_grammars(self):
        draw = Draw(251)
        homes = 0
        for k in range(120):
            book = (BOLD, DEEP, BOOKS[5], BOOKS[9])[k % 4]
            grammar = (drawn_driven if k % 3 else drawn_grammar)(draw, 1 + draw.below(3), 2 + draw.below(6))
            split = split_of(book, grammar)[0]
            told = homes_of(book, grammar)
            self.assertEqual((type(told), len(told)), (tuple, split[0]))
            sizes = oracle.sizes_of(split)
            found = [set() for _ in told]
            for tree in oracle.lot_among(split, SIX):
                for name, place in oracle.places_of_names(split, tree):
                    found[name].add(place)
            for name, (front, back) in enumerate(told):
                many = len(front) + len(back)
                if many + sizes[name] <= 6:
                    self.assertIn((front, back), found[name])
                    self.assertEqual(min(len(one) + len(two) for one, two in found[name]), many)
                    homes += 1
        self.assertGreater(homes, 150)


class TestLessons(Checks, unittest.TestCase):

    def test_examples(self):
        self.assert_same((lessons_of(BOLD, LONG), lessons_of(DEEP, LONG)), ((A, FA), (A, FA, FFA)))
        self.assert_same(rule_lessons(BOLD, FOUND), (FA, FB, FA))

    def test_empty_lots(self):
        for book in BOOKS:
            for grammar in NOTHING:
                self.assert_same((rule_lessons(book, grammar), lessons_of(book, grammar)), ((), ()))

    def test_rules_that_do_not_stand_have_none(self):
        self.assert_same((rule_lessons(BOLD, DEAD), lessons_of(BOLD, DEAD)), ((FA, FA), (FA,)))

    def test_lessons_in_order(self):
        grammar = (2, (0,), ((0, "a", (1,)), (0, "f", (0,)), (1, "b", ()), (1, "z", ())))
        lessons = rule_lessons(BOLD, grammar)
        ab, az = (("a", 1),) + B, (("a", 1), ("z", 0))
        self.assert_same(lessons, (ab, (("f", 1),) + ab, ab, az))
        self.assert_same(lessons_of(BOLD, grammar), (ab, az, (("f", 1),) + ab))

    def test_of_places_with_as_many_symbols_the_one_that_makes_the_least_tree(self):
        """Which of the places makes the least tree may depend on the piece that is put there."""
        rules = ((0, "c", ()), (0, "x", ()), (1, "h", (2, 0)), (1, "h", (0, 2)), (2, "d", ()))
        c, d, x = (("c", 0),), (("d", 0),), (("x", 0),)
        told = rule_lessons(BOLD, (3, (1,), tuple(sorted(rules))))
        self.assert_same(told, ((("h", 2),) + c + d, (("h", 2),) + d + x, (("h", 2),) + c + d, (("h", 2),) + d + c,
                                (("h", 2),) + c + d))
        rules = ((0, "a", ()), (0, "b", ()), (1, "g", (0, 0)))
        told = rule_lessons(BOLD, (2, (1,), rules))
        self.assert_same(told, ((("g", 2),) + A + A, (("g", 2),) + A + B, (("g", 2),) + A + A))

    def test_several_ways_up(self):
        rules = ((0, "a", ()), (0, "z", ()), (1, "m", (0,)), (2, "k", (0,)), (3, "g", (1, 4)), (3, "g", (4, 2)),
                 (3, "h", (5,)), (4, "b", ()), (5, "h", (1,)), (6, "b", (7,)), (7, "b", (2,)))
        grammar = (8, (3, 6), tuple(sorted(rules)))
        z = (("z", 0),)
        told = rule_lessons(BOLD, grammar)
        self.assert_same(told[1], (("b", 1), ("b", 1), ("k", 1)) + z)

    def test_drawn_grammars(self):
        """Each lesson is the least of all trees of the split grammar's lot that use the rule."""
        draw = Draw(252)
        lessons = 0
        for k in range(150):
            book = (BOLD, DEEP, BOOKS[5], BOOKS[9], MIX)[k % 5]
            grammar = (drawn_driven if k % 3 else drawn_grammar)(draw, 1 + draw.below(4), 2 + draw.below(7))
            split = split_of(book, grammar)[0]
            least = {}
            for tree in oracle.lot_among(split, SIX):
                for rule in oracle.used_rules(split, tree):
                    least.setdefault(rule, tree)
            told = rule_lessons(book, grammar)
            self.assertEqual((type(told), len(told)), (tuple, len(split[2])))
            for rule, lesson in enumerate(told):
                if len(lesson) <= 6:
                    self.assert_same(lesson, least[rule])
                    lessons += 1
                else:
                    self.assertNotIn(rule, least)
                    self.assertIn(rule, oracle.used_rules(split, lesson))
            self.assert_same(lessons_of(book, grammar), oracle.ordered(told))
        self.assertGreater(lessons, 300)

    def test_long_lessons(self):
        rules = ((0, "a", ()),) + tuple((k, "f", (k - 1,)) for k in range(1, 40))
        tall = (("f", 1),) * 39 + A
        self.assert_same(rule_lessons(BOLD, (40, (39,), rules)), (tall,) * 40)
        self.assert_same(lessons_of(DEEP, (40, (39,), rules)), (tall,))
        looped = tuple(sorted(rules + ((0, "f", (39,)),)))
        self.assert_same(lessons_of(BOLD, (40, (39,), looped)), (tall, with_piece(tall, 39, (("f", 1),) + tall)))

    def test_other_grammars(self):
        self.assert_same((lessons_of(BOLD, ONE), lessons_of(BOLD, EVEN)), ((A,), (A, FFA)))
        self.assert_same(rule_lessons(BOLD, EVEN), (A, FFA, FFA))
        self.assert_same(lessons_of(DEEP, FOUND), (FA, FB))


if __name__ == "__main__":
    unittest.main()
