"""The checker of joins, and the trees that joins lead to: [32] and [33]."""

import unittest

from stoodthere.joinchecker import lets_joins
from stoodthere.ledtrees import classes_making, is_led
from tests import oracle
from tests.checks import Checks
from tests.samples import A, B, BOLD, BOOKS, BOTH, DEEP, DOT, FA, FB, FFA, G, SMALL_TREES, WIDE, WRONG_NUMBERS
from tests.samples import WRONG_SENTENCES, WRONG_TREES, Draw, drawn_sentences

FFB = (("f", 1),) + FB
GAB, GBA, GBB = (("g", 2),) + A + B, (("g", 2),) + B + A, (("g", 2),) + B + B
TWO = (A, B)
JOIN_AB = ("root", A, B, 0)


class TestJoins(Checks, unittest.TestCase):

    def test_no_joins(self):
        self.assert_same(lets_joins(BOLD, (), ()), ())
        self.assert_same(lets_joins(BOLD, (G,), ()), ((A,), (B,), (FA,), (G,)))
        self.assert_same(lets_joins(DEEP, (FFA, B), ()), ((A,), (B,), (FA,), (FFA,)))

    def test_root(self):
        self.assert_same(lets_joins(BOLD, (FA, B), (("root", FA, B, 0),)), ((A,), (B, FA)))
        self.assert_same(lets_joins(BOLD, (FA, B), (("root", B, FA, 0),)), ((A,), (B, FA)))
        self.assert_refused("root", 0, lets_joins, DEEP, (FA, B), (("root", FA, B, 0),))
        self.assert_same(lets_joins(DEEP, (FA, FB), (("root", FA, FB, 0),)), ((A,), (B,), (FA, FB)))

    def test_root_joins_sentences_alone(self):
        self.assert_refused("root", 0, lets_joins, BOLD, (FA, B), (("root", A, B, 0),))
        self.assert_refused("root", 0, lets_joins, BOLD, (FA, B), (("root", B, A, 0),))
        self.assert_refused("root", 0, lets_joins, BOLD, (FFA, B), (("root", FA, FFA, 0),))

    def test_up(self):
        joins = (JOIN_AB, ("up", FA, FB, 0), ("up", FFA, FFB, 0))
        given = (A, B, FFA, FFB)
        self.assert_same(lets_joins(BOLD, given, joins), ((A, B), (FA, FB), (FFA, FFB)))
        self.assert_refused("up", 0, lets_joins, BOLD, given, joins[1:])
        self.assert_refused("up", 1, lets_joins, BOLD, given, (JOIN_AB, joins[2]))
        self.assert_refused("up", 1, lets_joins, BOLD, (A, B, FA, GAB), (JOIN_AB, ("up", FA, GAB, 0)))
        other = (("a", 1), ("b", 0))
        self.assert_refused("up", 1, lets_joins, BOLD, (A, B, FA, other), (JOIN_AB, ("up", FA, other, 0)))

    def test_up_asks_no_kind(self):
        """Pieces of unlike kinds are joined by "up"; a root or a part of unlike kind is not."""
        self.assert_same(lets_joins((("groups", (), 0), ("groups", (("a", 1), ("b", 1)), 0)), (A, B, FA, FB),
                                    (JOIN_AB, ("up", FA, FB, 0))), ((A, B), (FA, FB)))

    def test_up_asks_each_part(self):
        given = (A, B, GAB, GBA, GBB)
        self.assert_same(lets_joins(BOLD, given, (JOIN_AB, ("up", GAB, GBA, 0))), ((A, B), (GAB, GBA), (GBB,)))
        for one, two in ((GAB, GBB), (GAB, GBA), (GBA, GBB)):
            self.assert_refused("up", 0, lets_joins, BOLD, given, (("up", one, two, 0),))

    def test_up_asks_no_parts_of_leaves(self):
        self.assert_refused("joined", 0, lets_joins, BOLD, (A, B), (("up", A, A, 0),))
        self.assert_refused("up", 0, lets_joins, BOLD, (A, B), (("up", A, B, 0),))

    def test_down(self):
        given = (FA, FB)
        joins = (("root", FA, FB, 0), ("down", FA, FB, 0))
        self.assert_same(lets_joins(BOLD, given, joins), ((A, B), (FA, FB)))
        self.assert_refused("down", 0, lets_joins, BOLD, given, joins[1:])
        self.assert_refused("down", 1, lets_joins, DEEP, given, joins)
        self.assert_refused("down", 1, lets_joins, BOLD, given, (joins[0], ("down", FA, FB, 1)))
        self.assert_refused("down", 1, lets_joins, BOLD, given, (joins[0], ("down", FA, FB, 10 ** 59)))

    def test_down_asks_the_other_parts(self):
        given = (GAB, GBB, GBA)
        rooted = (("root", GAB, GBB, 0), ("root", GBB, GBA, 0))
        self.assert_same(lets_joins(BOLD, given, rooted + (("down", GAB, GBB, 0),)), ((A, B), (GAB, GBA, GBB)))
        self.assert_same(lets_joins(BOLD, given, rooted + (("down", GBA, GBB, 1),)), ((A, B), (GAB, GBA, GBB)))
        self.assert_refused("down", 2, lets_joins, BOLD, given, rooted + (("down", GAB, GBA, 0),))
        self.assert_refused("down", 2, lets_joins, BOLD, given, rooted + (("down", GAB, GBA, 1),))
        self.assert_refused("joined", 2, lets_joins, BOLD, given, rooted + (("down", GAB, GAB, 1),))

    def test_down_part_that_is_joined_already(self):
        """Part 1 is the same; part 0 is asked not to be compared, so what is told is that part 1 is not joined."""
        given = (GAB, GBB)
        rooted = (("root", GAB, GBB, 0),)
        self.assert_refused("down", 1, lets_joins, BOLD, given, rooted + (("down", GAB, GBB, 1),))
        joins = rooted + (("down", GAB, GBB, 0),)
        self.assert_refused("joined", 2, lets_joins, BOLD, given, joins + (("down", GAB, GBB, 1),))
        self.assert_refused("joined", 2, lets_joins, BOLD, given, joins + (("down", GAB, GBB, 0),))

    def test_down_asks_the_same_root_symbol(self):
        given = (FA, GAB, (("f", 2),) + A + B)
        rooted = (("root", FA, GAB, 0), ("root", FA, given[2], 0))
        for one, two in ((FA, GAB), (GAB, FA), (FA, given[2]), (given[2], GAB)):
            self.assert_refused("down", 2, lets_joins, BOLD, given, rooted + (("down", one, two, 0),))

    def test_what_is_joined_with_one_is_joined_with_all(self):
        c = (("c", 0),)
        given = (A, B, c, FA, (("f", 1),) + c)
        joins = (JOIN_AB, ("root", B, c, 0), ("up", given[3], given[4], 0))
        self.assert_same(lets_joins(BOLD, given, joins), ((A, B, c), (FA, given[4])))
        self.assert_refused("joined", 2, lets_joins, BOLD, given, joins[:2] + (("root", c, A, 0),))

    def test_joined(self):
        self.assert_refused("joined", 1, lets_joins, BOLD, TWO, (JOIN_AB, JOIN_AB))
        self.assert_refused("joined", 1, lets_joins, BOLD, TWO, (JOIN_AB, ("root", B, A, 0)))
        self.assert_refused("joined", 0, lets_joins, BOLD, TWO, (("root", A, A, 0),))
        self.assert_refused("joined", 0, lets_joins, BOLD, (FA,), (("down", FA, FA, 0),))
        self.assert_refused("joined", 0, lets_joins, DEEP, (G,), (("down", G, G, 1),))
        self.assert_refused("down", 0, lets_joins, DEEP, (G,), (("down", G, G, 2),))

    def test_shape(self):
        for thing in (None, True, 0, "", [], [JOIN_AB], "root"):
            self.assert_refused("shape", -1, lets_joins, BOLD, TWO, thing)
        wrong = [None, True, 0, "root", (), [], list(JOIN_AB), JOIN_AB[:3], JOIN_AB + (0,), ("roots", A, B, 0),
                 ("", A, B, 0), (None, A, B, 0), (A, "root", B, 0), ("root", A, B, 1), ("up", A, B, 1),
                 (["root"], A, B, 0), ("Root", A, B, 0), (("root",), A, B, 0), ("root", A, B, 10 ** 59)]
        wrong += [(word, A, B, number) for word in ("root", "up", "down") for number in WRONG_NUMBERS]
        for join in wrong:
            self.assert_refused("shape", 0, lets_joins, BOLD, TWO, (join,))
            self.assert_refused("shape", 1, lets_joins, BOLD, TWO, (JOIN_AB, join, None))

    def test_piece(self):
        for thing in WRONG_TREES + (FA, G):
            for word in ("root", "up", "down"):
                self.assert_refused("piece", 0, lets_joins, BOLD, TWO, ((word, thing, A, 0), None))
                self.assert_refused("piece", 1, lets_joins, BOLD, TWO, (JOIN_AB, (word, B, thing, 0)))
        self.assert_refused("piece", 0, lets_joins, BOLD, (), (JOIN_AB,))

    def test_the_first_fault_is_told(self):
        self.assert_refused("shape", 0, lets_joins, BOLD, TWO, (("root", FA, B, 1), None))
        self.assert_refused("piece", 0, lets_joins, DEEP, (A, FA), (("root", B, A, 0), None))
        self.assert_refused("root", 0, lets_joins, DEEP, (A, FA), (("root", FA, A, 0), None))
        self.assert_refused("joined", 1, lets_joins, BOLD, TWO, (JOIN_AB, JOIN_AB, ("root", FA, B, 0)))

    def test_drawn_joins(self):
        draw = Draw(70)
        for book in BOOKS:
            for _ in range(6):
                given = drawn_sentences(draw, 4, SMALL_TREES[:60])
                joins, _ = oracle.saturated(book, given, draw)
                classes = oracle.Classes(book, given)
                self.assert_same(lets_joins(book, given, ()), classes.told())
                for k, join in enumerate(joins):
                    self.check_other_joins(draw, book, given, joins[:k], classes)
                    classes.make(join)
                    self.assert_same(lets_joins(book, given, joins[:k + 1]), classes.told())
                self.check_other_joins(draw, book, given, joins, classes)

    def check_other_joins(self, draw, book, given, joins, classes):
        for _ in range(20):
            one, two = draw.one_of(classes.pieces), draw.one_of(classes.pieces)
            word = draw.one_of(("root", "up", "down"))
            join = (word, one, two, draw.below(3) if word == "down" else 0)
            fault = classes.fault(join)
            if fault is None:
                self.assertEqual(len(lets_joins(book, given, joins + (join,))), len(classes.classes) - 1)
            else:
                self.assert_refused(fault, len(joins), lets_joins, book, given, joins + (join,))

    def test_wrong_given(self):
        for thing in WRONG_SENTENCES:
            self.assert_not_usable("given", lets_joins, BOLD, thing, ())
            self.assert_not_usable("given", lets_joins, BOLD, thing, None)


class TestLedTrees(Checks, unittest.TestCase):

    def test_example(self):
        self.assert_same(classes_making(BOLD, (A, B, BOTH), (("root", A, B, 0),), FA), (1, 2))

    def test_no_joins_lead_to_the_sentences_alone(self):
        for tree in SMALL_TREES[:60] + [BOTH, WIDE]:
            self.assert_same(is_led(BOLD, (G, FFA), (), tree), tree in (G, FFA))
            self.assert_same(is_led(BOLD, (), (), tree), False)
            self.assert_same(classes_making(BOLD, (), (), tree), ())
        self.assert_same(classes_making(BOLD, (G,), (), FA), (2,))

    def test_endless_lots(self):
        joins = (("root", A, FA, 0),)
        for k in range(60):
            self.assert_same(is_led(BOLD, (A, FA), joins, (("f", 1),) * k + A), True)
            self.assert_same(is_led(BOLD, (A, FA), joins, (("f", 1),) * k + B), False)
            self.assert_same(classes_making(BOLD, (A, FA), joins, (("f", 1),) * k + A), (0,))
        self.assert_same(is_led(BOLD, (A, FA), joins, (("f", 1),) * 399 + A), True)

    def test_a_class_without_a_sentence_leads_nowhere(self):
        joins = (("root", FA, FB, 0), ("down", FA, FB, 0))
        self.assert_same(is_led(BOLD, (FA, FB), joins, A), False)
        self.assert_same(classes_making(BOLD, (FA, FB), joins, A), (0,))
        self.assert_same(classes_making(BOLD, (FA, FB), joins, FA), (1,))
        self.assert_same((is_led(BOLD, (FA, FB), joins, FB), is_led(BOLD, (FA, FB), joins, FFA)), (True, False))

    def test_same_root_word_with_another_many(self):
        joins = (("root", A, FA, 0),)
        self.assert_same(is_led(BOLD, (A, FA), joins, (("f", 2), ("a", 0), ("a", 0))), False)
        self.assert_same(is_led(BOLD, (A, FA), joins, (("f", 0),)), False)
        self.assert_same(is_led(BOLD, (A, FA), joins, (("a", 1), ("a", 0))), False)

    def test_drawn_joins(self):
        draw = Draw(71)
        for book in BOOKS:
            for _ in range(5):
                given = drawn_sentences(draw, 3, SMALL_TREES[:80])
                joins, _ = oracle.saturated(book, given, draw)
                many = draw.below(len(joins) + 1)
                for some in (joins[:many], joins):
                    self.check_led(draw, book, given, some)

    def check_led(self, draw, book, given, joins):
        classes = oracle.Classes(book, given)
        for join in joins:
            classes.make(join)
        for tree in draw.some_of(SMALL_TREES, 15) + list(given) + [DOT]:
            numbers = tuple(sorted(classes.makes(oracle.nested(tree))))
            self.assert_same(classes_making(book, given, joins, tree), numbers)
            self.assert_same(is_led(book, given, joins, tree), classes.leads_to(tree))

    def test_wrong_parameters(self):
        for function in (is_led, classes_making):
            for thing in WRONG_SENTENCES:
                self.assert_not_usable("given", function, BOLD, thing, (), A)
                self.assert_not_usable("given", function, BOLD, thing, None, None)
            for joins in (None, True, 0, "", [], (None,), [JOIN_AB], (JOIN_AB, JOIN_AB), (("root", A, FA, 0),),
                          (("up", A, B, 0),), (("root", A, B, False),), (("root", A, B, 1),), JOIN_AB, "root"):
                self.assert_not_usable("joins", function, BOLD, TWO, joins, A)
                self.assert_not_usable("joins", function, BOLD, TWO, joins, None)
            self.assert_not_usable("joins", function, DEEP, (A, FA), (("root", A, FA, 0),), A)
            for thing in WRONG_TREES:
                self.assert_not_usable("tree", function, BOLD, TWO, (JOIN_AB,), thing)
                self.assert_not_usable("tree", function, BOLD, (), (), thing)


if __name__ == "__main__":
    unittest.main()
