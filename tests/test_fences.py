"""Fences and papers of verdicts, and their checkers: [37] and [38]."""

import unittest

from stoodthere.fencechecker import lets_fence
from stoodthere.verdictchecker import lets_verdict
from stoodthere.verdictkinds import is_paper_shape
from tests import oracle
from tests.checks import Checks
from tests.samples import A, B, BOLD, BOOKS, DEEP, EMPTY, EVEN, FA, FAIR_DEEP, FB, FFA, FOUND, LONG, ONE, SMALL_SYMBOLS
from tests.samples import SMALL_TREES, WRONG_GRAMMARS, WRONG_SENTENCES, WRONG_TREES, Draw, drawn_driven, drawn_grammar
from tests.samples import drawn_sentences, trees_up_to

TWO = (A, FA)
JOINED = (("root", A, FA, 0),)
ALL_F = (1, (0,), ((0, "a", ()), (0, "b", ()), (0, "f", (0,))))
JUST_A_AND_FA = (2, (0, 1), ((0, "a", ()), (1, "f", (0,))))
BREACHES = (
    (("trim", 1), (2, (0,), ((0, "a", ()), (1, "b", ())))),
    (("driven", 1), (2, (0, 1), ((0, "a", ()), (1, "a", ())))),
    (("kinded", 1), LONG),
    (("turned", 3), (3, (2,), ((0, "f", ()), (1, "f", (0,)), (2, "g", (0,)), (2, "g", (1,))))),
    (("single", 1), (2, (0, 1), ((0, "a", ()), (1, "b", ())))),
)
# By this book a and b alone are apart from all others, which are of one kind.
ONE_KIND = (("groups", (), 0),)


def cut_apart(sentences):
    """Each sentence alone, by a book so deep that nothing is exchanged: a fence of just these."""
    return oracle.found_grammar((("depth", 60),), sentences, SMALL_TREES)


class TestFences(Checks, unittest.TestCase):

    def test_fences(self):
        self.assert_same(lets_fence(BOLD, (A, FFA), (B, FB), LONG), 1)
        self.assert_same(lets_fence(BOLD, (FA, FB), (A, B, FFA), FOUND), 2)
        self.assert_same(lets_fence(DEEP, (A, FA, FFA), (B,), FAIR_DEEP), 2)
        self.assert_same(lets_fence(BOLD, (), (), LONG), 1)
        self.assert_same(lets_fence(BOLD, (), (A, B), EMPTY), 0)
        self.assert_same(lets_fence(DEEP, (), (), EMPTY), 0)
        self.assert_same(lets_fence(BOLD, (A,), (FA,), ONE), 1)

    def test_shape(self):
        for thing in WRONG_GRAMMARS:
            self.assert_refused("shape", -1, lets_fence, BOLD, (), (), thing)
            self.assert_refused("shape", -1, lets_fence, BOLD, (A,), (A,), thing)

    def test_breaches(self):
        for (word, at), grammar in BREACHES:
            book = DEEP if word == "kinded" else ONE_KIND
            self.assert_refused(word, at, lets_fence, book, (), (), grammar)
            self.assert_refused(word, at, lets_fence, book, (FFA,), (A,), grammar)
        self.assert_refused("trim", 0, lets_fence, BOLD, (), (), (10 ** 59, (), ()))

    def test_inside_and_outside(self):
        self.assert_refused("inside", 0, lets_fence, BOLD, (B,), (), LONG)
        self.assert_refused("inside", 2, lets_fence, BOLD, (A, FA, FB, B), (A, FFA), LONG)
        self.assert_refused("outside", 0, lets_fence, BOLD, (), (A,), LONG)
        self.assert_refused("outside", 1, lets_fence, BOLD, (A, FA), (B, FFA, A), LONG)
        self.assert_refused("inside", 0, lets_fence, BOLD, (A,), (A,), EMPTY)
        self.assert_refused("outside", 0, lets_fence, BOLD, (A,), (A,), LONG)
        # Name 0 makes a, but it is no start.
        self.assert_refused("inside", 0, lets_fence, BOLD, (A,), (), FOUND)

    def test_each_entry_comes_ahead_of_later_ones(self):
        """A thing with every fault; each is told as soon as the ones ahead of it are taken away."""
        rules = ((0, "a", ()), (0, "f", (0,)), (1, "a", ()), (2, "b", ()), (3, "f", (1,)), (3, "f", (2,)))
        c = (("c", 0),)
        inside, outside = (FA, B, (("g", 1),) + A), (c, B)
        self.assert_refused("shape", -1, lets_fence, DEEP, inside, outside, (3, (0, 1, 2, 3), rules))
        self.assert_refused("trim", 4, lets_fence, DEEP, inside, outside, (5, (0, 1, 2, 3), rules))
        self.assert_refused("driven", 2, lets_fence, DEEP, inside, outside, (4, (0, 1, 2, 3), rules))
        rules = rules[:2] + ((1, "c", ()),) + rules[3:]
        self.assert_refused("kinded", 1, lets_fence, DEEP, inside, outside, (4, (0, 1, 2, 3), rules))
        self.assert_refused("turned", 5, lets_fence, BOLD, inside, outside, (4, (0, 1, 2, 3), rules))
        rules = rules[:4] + ((3, "f", (1,)),)
        self.assert_refused("single", 1, lets_fence, BOLD, inside, outside, (4, (0, 1, 2, 3), rules))
        self.assert_refused("inside", 2, lets_fence, BOLD, inside, outside, ALL_F)
        self.assert_refused("outside", 1, lets_fence, BOLD, inside[:2], outside, ALL_F)
        self.assert_same(lets_fence(BOLD, inside[:2], outside[:1], ALL_F), 1)

    def test_drawn_things(self):
        draw = Draw(120)
        trees = trees_up_to(SMALL_SYMBOLS, 5)
        seen = set()
        for k in range(500):
            book = draw.one_of(BOOKS)
            grammar = (drawn_driven if k % 3 else drawn_grammar)(draw, 1 + draw.below(3), 2 + draw.below(6))
            if k % 4:
                grammar = oracle.renamed(grammar, sorted(oracle.live_names(grammar)))
            lot = oracle.lot_among(grammar, trees)
            inside = tuple(draw.some_of(lot, draw.below(4)))
            if draw.below(3) == 0:
                inside += tuple(tree for tree in drawn_sentences(draw, 1) if tree not in inside)
            outside = drawn_sentences(draw, draw.below(3))
            wanted = self.by_hand(book, inside, outside, grammar, trees)
            if wanted is None:
                self.assert_same(lets_fence(book, inside, outside, grammar), grammar[0])
            elif wanted != "too long":
                self.assert_refused(*wanted, lets_fence, book, inside, outside, grammar)
            seen.add(wanted and wanted[0])
        self.assertLessEqual({"trim", "driven", "kinded", "turned", "single", "inside", "outside", None}, seen)

    def by_hand(self, book, inside, outside, grammar, trees):
        breach = oracle.breach(book, grammar, trees)
        if breach is not None:
            return breach
        for k, tree in enumerate(inside):
            if not oracle.lot_among(grammar, [tree]):
                return ("inside", k)
        for k, tree in enumerate(outside):
            if oracle.lot_among(grammar, [tree]):
                return ("outside", k)
        return None

    def test_wrong_parameters(self):
        for thing in WRONG_SENTENCES:
            self.assert_not_usable("inside", lets_fence, BOLD, thing, (), LONG)
            self.assert_not_usable("inside", lets_fence, BOLD, thing, None, None)
            self.assert_not_usable("outside", lets_fence, BOLD, (A,), thing, LONG)
            self.assert_not_usable("outside", lets_fence, BOLD, (), thing, None)


class TestPaperShapes(Checks, unittest.TestCase):

    def test_shapes(self):
        for thing in (("in", LONG, ()), ("in", EMPTY, (None, 7)), ("in", EVEN, A), ("out", LONG, A, ()),
                      ("out", EMPTY, FFA, JOINED), ("open", LONG, EMPTY), ("open", EVEN, EVEN), ("odds", A, ()),
                      ("odds", FB, ([],)), ("in", (10 ** 59, (), ()), ())):
            self.assert_same(is_paper_shape(thing), True)

    def test_no_shapes(self):
        things = [None, True, 0, "", "in", (), [], ("in",), ("odds",), ["in", LONG, ()], ("In", LONG, ()), ("", LONG, ()),
                  ("in", LONG), ("in", LONG, (), ()), ("in", LONG, []), ("in", LONG, None), ("in", LONG, A, ()),
                  ("out", LONG, ()), ("out", LONG, A), ("out", LONG, A, (), ()), ("out", A, LONG, ()), ("out", LONG, A, []),
                  ("open", LONG), ("open", LONG, LONG, ()), ("open", LONG, ()), ("open", (), LONG), ("odds", LONG, ()),
                  ("odds", A), ("odds", A, (), ()), ("odds", A, []), ("odds", A, None), (None, LONG, ()), (0, LONG, ()),
                  (["in"], LONG, ()), (("in",), LONG, ()), (True, A, ()), ({}, A, ())]
        things += [(word, grammar, ()) for word in ("in", "odds") for grammar in WRONG_GRAMMARS if grammar != A]
        things += [("open", LONG, grammar) for grammar in WRONG_GRAMMARS]
        things += [("open", grammar, LONG) for grammar in WRONG_GRAMMARS]
        things += [("out", grammar, A, ()) for grammar in WRONG_GRAMMARS]
        things += [("out", LONG, tree, ()) for tree in WRONG_TREES] + [("odds", tree, ()) for tree in WRONG_TREES]
        for thing in things:
            self.assert_same(is_paper_shape(thing), False)
            self.assert_refused("shape", -1, lets_verdict, BOLD, (), (), A, thing)
            self.assert_refused("shape", -1, lets_verdict, DEEP, TWO, (A, B), FFA, thing)


class TestPapers(Checks, unittest.TestCase):

    def test_in(self):
        self.assert_same(lets_verdict(BOLD, TWO, (B,), FFA, ("in", LONG, JOINED)), "in")
        self.assert_same(lets_verdict(BOLD, TWO, (), A, ("in", LONG, ())), "in")
        self.assert_same(lets_verdict(DEEP, TWO, (B, FFA), FA, ("in", JUST_A_AND_FA, ())), "in")
        # A fence may take more than the closure.
        self.assert_same(lets_verdict(BOLD, (A,), (), A, ("in", ALL_F, ())), "in")

    def test_in_refused(self):
        self.assert_refused("fence", 1, lets_verdict, DEEP, TWO, (), FFA, ("in", LONG, JOINED))
        self.assert_refused("fence", 1, lets_verdict, BOLD, (A, FB), (), A, ("in", LONG, (None,)))
        self.assert_refused("fence", 1, lets_verdict, BOLD, TWO, (FFA,), A, ("in", LONG, ()))
        self.assert_refused("joins", 2, lets_verdict, BOLD, TWO, (B,), FFA, ("in", LONG, ()))
        self.assert_refused("joins", 2, lets_verdict, BOLD, TWO, (), A, ("in", LONG, JOINED + JOINED))
        self.assert_refused("joins", 2, lets_verdict, BOLD, TWO, (), A, ("in", LONG, (None,)))
        self.assert_refused("joins", 2, lets_verdict, BOLD, TWO, (), B, ("in", LONG, JOINED))
        # The joins are of the standing ones alone, also if the tree is another one.
        self.assert_refused("joins", 2, lets_verdict, BOLD, (A,), (), FA, ("in", LONG, JOINED))

    def test_out(self):
        paper = ("out", LONG, FB, (("root", A, B, 0),))
        self.assert_same(lets_verdict(BOLD, TWO, (FB,), B, paper), "out")
        self.assert_same(lets_verdict(BOLD, (), (A,), A, ("out", EMPTY, A, ())), "out")
        self.assert_same(lets_verdict(BOLD, (A,), (FA,), FA, ("out", ONE, FA, ())), "out")
        self.assert_same(lets_verdict(BOLD, (A,), (B, FFA), FA, ("out", ONE, FFA, JOINED)), "out")

    def test_out_refused(self):
        join = (("root", A, B, 0),)
        self.assert_refused("fence", 1, lets_verdict, DEEP, TWO, (FB,), B, ("out", LONG, FB, join))
        self.assert_refused("fence", 1, lets_verdict, BOLD, TWO, (FB,), B, ("out", ALL_F, A, (None,)))
        self.assert_refused("barred", 2, lets_verdict, BOLD, TWO, (FB,), B, ("out", LONG, FFA, join))
        self.assert_refused("barred", 2, lets_verdict, BOLD, TWO, (), B, ("out", LONG, FB, (None,)))
        self.assert_refused("joins", 3, lets_verdict, BOLD, TWO, (FB,), B, ("out", LONG, FB, ()))
        self.assert_refused("joins", 3, lets_verdict, BOLD, TWO, (FB,), B, ("out", LONG, FB, (None,)))
        self.assert_refused("joins", 3, lets_verdict, BOLD, TWO, (FB,), FFA, ("out", LONG, FB, join))
        # The tree stands behind the others, so these may stand alone, too; but what joins lead to is to be barred.
        self.assert_refused("joins", 3, lets_verdict, BOLD, TWO, (FB, B), FFA, ("out", LONG, B, JOINED))

    def test_open(self):
        paper = ("open", JUST_A_AND_FA, (3, (0, 1, 2), ((0, "a", ()), (1, "b", ()), (2, "f", (0,)))))
        self.assert_same(lets_verdict(DEEP, TWO, (FB,), B, paper), "open")
        self.assert_same(lets_verdict(BOLD, (), (B,), A, ("open", EMPTY, ONE)), "open")
        self.assert_same(lets_verdict(BOLD, (A,), (B,), FA, ("open", ONE, LONG)), "open")

    def test_open_refused(self):
        second = (3, (0, 1, 2), ((0, "a", ()), (1, "b", ()), (2, "f", (0,))))
        self.assert_refused("fence", 1, lets_verdict, BOLD, TWO, (FB,), B, ("open", JUST_A_AND_FA, ALL_F))
        self.assert_refused("fence", 1, lets_verdict, DEEP, TWO, (FB,), B, ("open", second, second))
        self.assert_refused("fence", 1, lets_verdict, DEEP, TWO, (FB,), A, ("open", JUST_A_AND_FA, JUST_A_AND_FA))
        self.assert_refused("fence", 1, lets_verdict, DEEP, TWO, (FA,), B, ("open", JUST_A_AND_FA, second))
        self.assert_refused("fence", 2, lets_verdict, DEEP, TWO, (FB,), B, ("open", JUST_A_AND_FA, JUST_A_AND_FA))
        self.assert_refused("fence", 2, lets_verdict, DEEP, (A,), (FA,), B, ("open", ONE, second))
        self.assert_refused("fence", 2, lets_verdict, BOLD, (A,), (), B, ("open", ONE, second))
        self.assert_refused("fence", 2, lets_verdict, BOLD, (A,), (), B, ("open", ONE, (1, (0,), ((0, "b", ()),))))

    def test_odds(self):
        self.assert_same(lets_verdict(BOLD, TWO, (FFA,), B, ("odds", FFA, JOINED)), "odds")
        self.assert_same(lets_verdict(BOLD, TWO, (B, A), FFA, ("odds", A, ())), "odds")
        self.assert_same(lets_verdict(DEEP, (A,), (A,), A, ("odds", A, ())), "odds")

    def test_odds_refused(self):
        self.assert_refused("barred", 1, lets_verdict, BOLD, TWO, (FFA,), B, ("odds", FA, ()))
        self.assert_refused("barred", 1, lets_verdict, BOLD, TWO, (), B, ("odds", FFA, (None,)))
        self.assert_refused("joins", 2, lets_verdict, BOLD, TWO, (FFA,), B, ("odds", FFA, ()))
        self.assert_refused("joins", 2, lets_verdict, DEEP, TWO, (FFA,), B, ("odds", FFA, JOINED))
        self.assert_refused("joins", 2, lets_verdict, BOLD, TWO, (FFA,), B, ("odds", FFA, (0,)))
        # The tree that the verdict is on does not stand.
        self.assert_refused("joins", 2, lets_verdict, BOLD, TWO, (B,), B, ("odds", B, ()))

    def test_values_of_one_paper_in_sequence(self):
        wrong = (("root", A, A, 0),)
        self.assert_refused("fence", 1, lets_verdict, BOLD, TWO, (FB,), B, ("out", ONE, A, wrong))
        self.assert_refused("barred", 2, lets_verdict, BOLD, TWO, (FB,), B, ("out", LONG, A, wrong))
        self.assert_refused("joins", 3, lets_verdict, BOLD, TWO, (FB,), B, ("out", LONG, FB, wrong))
        self.assert_refused("fence", 1, lets_verdict, BOLD, TWO, (FB,), B, ("open", ONE, ONE))
        self.assert_refused("fence", 1, lets_verdict, BOLD, TWO, (FB,), B, ("in", ONE, wrong))
        self.assert_refused("barred", 1, lets_verdict, BOLD, TWO, (FB,), B, ("odds", A, wrong))

    def test_a_fence_of_each_sentence_alone(self):
        draw = Draw(121)
        deepest = (("depth", 60),)
        for _ in range(40):
            standing = drawn_sentences(draw, draw.below(4), SMALL_TREES[:60])
            barred = drawn_sentences(draw, draw.below(3), [tree for tree in SMALL_TREES[:60] if tree not in standing])
            tree = draw.one_of(SMALL_TREES[:60])
            fence = cut_apart(standing)
            if tree in standing:
                self.assert_same(lets_verdict(deepest, standing, barred, tree, ("in", fence, ())), "in")
            elif tree in barred:
                self.assert_same(lets_verdict(deepest, standing, barred, tree, ("out", fence, tree, ())), "out")
            else:
                paper = ("open", fence, cut_apart(standing + (tree,)))
                self.assert_same(lets_verdict(deepest, standing, barred, tree, paper), "open")

    def test_wrong_parameters(self):
        paper = ("in", LONG, JOINED)
        for thing in WRONG_SENTENCES:
            self.assert_not_usable("standing", lets_verdict, BOLD, thing, (B,), FFA, paper)
            self.assert_not_usable("standing", lets_verdict, BOLD, thing, None, None, None)
            self.assert_not_usable("barred", lets_verdict, BOLD, TWO, thing, FFA, paper)
            self.assert_not_usable("barred", lets_verdict, BOLD, TWO, thing, None, None)
        for thing in WRONG_TREES:
            self.assert_not_usable("tree", lets_verdict, BOLD, TWO, (B,), thing, paper)
            self.assert_not_usable("tree", lets_verdict, BOLD, TWO, (B,), thing, None)


if __name__ == "__main__":
    unittest.main()
