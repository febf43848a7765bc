"""Quarrels, leans, dials and what a tree brings: [64], [65] and [66]."""

import unittest

from stoodthere.brings import brings_of
from stoodthere.dials import boldest_of, doubt_of, steps_of
from stoodthere.fairness import is_plain
from stoodthere.leans import lean_of
from stoodthere.quarrels import quarrel_of
from tests import oracle
from tests.checks import Checks
from tests.samples import A, B, BOLD, BOOKS, DEEP, DEEPEST_TREE, EMPTY, FA, FAIR_DEEP, FB, FFA, FOUND, G, LONG, ONE
from tests.samples import SMALL_SYMBOLS, SMALL_TREES, WRONG_NUMBERS, WRONG_SENTENCES, WRONG_TREES, Draw
from tests.samples import drawn_sentences, trees_up_to

FIVE = trees_up_to(SMALL_SYMBOLS, 5)
SIX = trees_up_to(SMALL_SYMBOLS, 6)
C = (("c", 0),)
FEW = SMALL_TREES[:12]
FEW += [(("f", 1),) * many + leaf for many in range(2, 6) for leaf in (A, B) if (("f", 1),) * many + leaf not in FEW]


def tall(many, leaf):
    return (("f", 1),) * many + leaf


def closure_by_hand(book, sentences):
    """What tells whether the closure has a tree: the classes, joined by the definition."""
    return oracle.saturated(book, sentences)[1]


def first_in(classes, trees):
    return next((tree for tree in trees if classes.leads_to(tree)), None)


class TestQuarrels(Checks, unittest.TestCase):

    def test_examples(self):
        self.assert_same(quarrel_of(BOLD, (A, FA, FB), (FFA,)), ((A, FA), FFA))

    def test_something_fits(self):
        for book in BOOKS:
            self.assert_same(quarrel_of(book, (), ()), None)
            self.assert_same(quarrel_of(book, (), (A,)), None)
            self.assert_same(quarrel_of(book, (G, FFA), ()), None)
            self.assert_same(quarrel_of(book, (G,), (FFA, A)), None)
        self.assert_same((quarrel_of(DEEP, (A, FA, FB), (FFA,)), quarrel_of(BOLD, (A, FA), (B, FB))), (None, None))

    def test_from_the_last_to_the_first(self):
        self.assert_same(quarrel_of(BOLD, (FB, FA, A), (FFA,)), ((FA, A), FFA))
        # Each two of them bring a barred one: the first two stay, whichever one it is.
        self.assert_same(quarrel_of(BOLD, (A, FA, FFA), (tall(3, A), tall(4, A))), ((A, FA), tall(3, A)))
        self.assert_same(quarrel_of(BOLD, (FFA, A, FA), (tall(3, A), tall(4, A))), ((FFA, A), tall(4, A)))
        self.assert_same(quarrel_of(BOLD, (FFA, A, FA), (tall(3, A), tall(5, A))), ((FFA, FA), tall(3, A)))

    def test_a_tree_that_stands_and_is_barred(self):
        for book in BOOKS:
            self.assert_same(quarrel_of(book, (FFA, G), (A, G)), ((G,), G))
            self.assert_same(quarrel_of(book, (G, FFA), (FFA, G)), ((G,), G))

    def test_the_first_barred_tree_of_what_is_kept(self):
        """The closure of all of them has f(f(a)) too, but that of the kept ones has not."""
        given = (FB, A, FA)
        self.assert_same(quarrel_of(BOLD, given, (FFA, FB)), ((FB,), FB))
        self.assert_same(quarrel_of(BOLD, given, (FFA, B)), ((A, FA), FFA))
        self.assert_same(quarrel_of(BOLD, given, (tall(2, B), B)), (given, tall(2, B)))

    def test_drawn_trees(self):
        draw = Draw(300)
        told = {True: 0, False: 0}
        for book in BOOKS:
            for _ in range(10):
                standing = drawn_sentences(draw, draw.below(6), FEW)
                barred = drawn_sentences(draw, draw.below(5), FEW)
                wanted = self.by_hand(book, standing, barred)
                told[wanted is None] += 1
                self.assert_same(quarrel_of(book, standing, barred), wanted)
        self.assertGreater(min(told.values()), 25)

    def by_hand(self, book, standing, barred):
        if first_in(closure_by_hand(book, standing), barred) is None:
            return None
        kept = list(standing)
        for tree in standing[::-1]:
            others = [other for other in kept if other != tree]
            if first_in(closure_by_hand(book, tuple(others)), barred) is not None:
                kept = others
        return (tuple(kept), first_in(closure_by_hand(book, tuple(kept)), barred))

    def test_wrong_parameters(self):
        for thing in WRONG_SENTENCES:
            self.assert_not_usable("standing", quarrel_of, BOLD, thing, (B,))
            self.assert_not_usable("standing", quarrel_of, BOLD, thing, None)
            self.assert_not_usable("barred", quarrel_of, BOLD, (A, FA), thing)
            self.assert_not_usable("barred", quarrel_of, BOLD, (), thing)


class TestLeans(Checks, unittest.TestCase):

    def test_examples(self):
        self.assert_same(lean_of(BOLD, (FFA, FA, A)), (FFA, FA))

    def test_edges(self):
        for book in BOOKS:
            self.assert_same((lean_of(book, ()), lean_of(book, (G,))), ((), (G,)))
            self.assert_same(lean_of(book, (A, B)), (A, B))
        self.assert_same(lean_of(DEEP, (FFA, FA, A)), (FFA, FA, A))

    def test_from_the_last_to_the_first(self):
        self.assert_same((lean_of(BOLD, (A, FA, FFA)), lean_of(BOLD, (A, FFA, FA))), ((A, FA), (A, FA)))
        self.assert_same(lean_of(BOLD, (tall(3, A), tall(2, A), FA, A)), (tall(3, A), tall(2, A)))
        # Two of these that differ in one part bring the others; two that differ in both bring none.
        four = tuple((("g", 2),) + one + two for one in (A, B) for two in (A, B))
        self.assert_same(lean_of(BOLD, four), four[:2])
        self.assert_same(lean_of(BOLD, four[::-1]), four[:1:-1])
        self.assert_same(lean_of(BOLD, (four[0], four[3], four[1], four[2])), (four[0], four[1]))
        self.assert_same(lean_of(BOLD, (four[0], four[3])), (four[0], four[3]))

    def test_drawn_trees(self):
        draw = Draw(301)
        shorter = 0
        for book in BOOKS:
            for _ in range(10):
                sentences = drawn_sentences(draw, draw.below(8), FEW)
                kept = list(sentences)
                for tree in sentences[::-1]:
                    others = [other for other in kept if other != tree]
                    if closure_by_hand(book, tuple(others)).leads_to(tree):
                        kept = others
                self.assert_same(lean_of(book, sentences), tuple(kept))
                shorter += len(kept) < len(sentences)
        self.assertGreater(shorter, 20)

    def test_wrong_sentences(self):
        for thing in WRONG_SENTENCES:
            self.assert_not_usable("sentences", lean_of, BOLD, thing)


class TestBoldest(Checks, unittest.TestCase):

    def test_examples(self):
        told = (boldest_of((A, FA), (FFA,)), boldest_of((), (A,)), boldest_of((A, FA), (B, FA)))
        self.assert_same(told, (1, 0, None))

    def test_edges(self):
        self.assert_same((boldest_of((), ()), boldest_of((A, FA), ()), boldest_of((G,), (A, B, FA))), (0, 0, 0))
        self.assert_same((boldest_of((A,), (A,)), boldest_of((G, FFA), (FFA, G))), (None, None))

    def test_deeper_and_deeper(self):
        for many in (1, 2, 3, 4, 11, 30, 58, 59):
            self.assert_same(boldest_of((tall(many - 1, A), tall(many, A)), (tall(many + 1, A),)), many)
        # Trees of sixty levels, and such as are alike in all but the last one.
        self.assert_same(boldest_of((DEEPEST_TREE, tall(58, A)), (tall(57, A),)), 58)
        given = (tall(58, A), tall(58, B), DEEPEST_TREE)
        self.assert_same(boldest_of(given, (tall(59, B),)), 59)
        self.assert_same(boldest_of(given, (tall(59, B), tall(58, B))), None)

    def test_drawn_trees(self):
        draw = Draw(302)
        seen = set()
        for _ in range(150):
            standing = drawn_sentences(draw, draw.below(5), FEW)
            barred = drawn_sentences(draw, 1 + draw.below(4), FEW)
            wanted = None
            for depth in range(7):
                if first_in(closure_by_hand((("depth", depth),), standing), barred) is None:
                    wanted = depth
                    break
            seen.add(wanted)
            self.assert_same(boldest_of(standing, barred), wanted)
        self.assertLessEqual({None, 0, 1, 2}, seen)

    def test_wrong_barred(self):
        for thing in WRONG_SENTENCES:
            self.assert_not_usable("barred", boldest_of, (A, FA), thing)
            self.assert_not_usable("barred", boldest_of, (), thing)


class TestDoubts(Checks, unittest.TestCase):

    def test_examples(self):
        self.assert_same(doubt_of((A, FA), 0), FFA)

    def test_edges(self):
        for depth in (0, 1, 2, 59):
            self.assert_same((doubt_of((), depth), doubt_of((G,), depth)), (None, None))
        self.assert_same(doubt_of((A, FA), 1), None)
        self.assert_same([doubt_of((FA, FFA), depth) for depth in (0, 1, 2)], [A, tall(3, A), None])
        self.assert_same([doubt_of((tall(58, A), tall(59, A)), depth) for depth in (0, 59)], [A, None])

    def test_depth_59_and_trees_of_sixty_levels(self):
        """Of trees of sixty levels the closures by the depths 58 and 59 may differ, those behind may not."""
        given = (tall(59, A), tall(59, B), tall(58, A))
        # By the depth 59 the trees of sixty levels are of one kind, so that a and b may be exchanged; by 60 not.
        self.assert_same(doubt_of(given[:2], 59), None)
        self.assert_same(doubt_of(given, 58), tall(58, B))
        self.assert_same(doubt_of(given, 59), None)

    def test_drawn_trees(self):
        draw = Draw(303)
        told = {"none": 0, "least": 0, "long": 0}
        for _ in range(200):
            sentences = drawn_sentences(draw, draw.below(5), FEW)
            depth = draw.below(3)
            bold, other = [closure_by_hand((("depth", d),), sentences) for d in (depth, depth + 1)]
            told_tree = doubt_of(sentences, depth)
            apart = next((tree for tree in SIX if bold.leads_to(tree) and not other.leads_to(tree)), None)
            if apart is not None:
                told["least"] += 1
                self.assert_same(told_tree, apart)
            elif told_tree is not None:
                told["long"] += 1
                self.assertGreater(oracle.key(told_tree), oracle.key(SIX[-1]))
                self.assertTrue(bold.leads_to(told_tree) and not other.leads_to(told_tree))
            else:
                told["none"] += 1
        self.assertGreater(min(told.values()), 3)

    def test_wrong_depth(self):
        for thing in WRONG_NUMBERS:
            self.assert_not_usable("depth", doubt_of, (A, FA), thing)
            self.assert_not_usable("depth", doubt_of, (), thing)


class TestSteps(Checks, unittest.TestCase):

    def test_examples(self):
        self.assert_same((steps_of((A,)), steps_of(())), ((ONE, ONE), (EMPTY,)))

    def test_steps(self):
        two = (2, (0, 1), ((0, "a", ()), (1, "f", (0,))))
        self.assert_same(steps_of((A, FA)), (LONG, two, two))
        apart = (3, (2,), ((0, "a", ()), (1, "b", ()), (2, "f", (0,)), (2, "f", (1,))))
        self.assert_same(steps_of((FA, FB))[:2], (FOUND, apart))
        self.assert_same(steps_of((A, FA, FFA))[1], FAIR_DEEP)
        self.assertEqual(len(steps_of((DEEPEST_TREE, A))), 61)

    def test_drawn_trees(self):
        draw = Draw(304)
        for _ in range(60):
            sentences = drawn_sentences(draw, draw.below(5), SMALL_TREES[:60])
            most = max([oracle.levels(oracle.nested(tree)) for tree in sentences], default=0)
            steps = steps_of(sentences)
            self.assertEqual((type(steps), len(steps)), (tuple, most + 1))
            for depth, grammar in enumerate(steps):
                self.assert_same(grammar, oracle.found_grammar((("depth", depth),), sentences, FIVE))
                self.assert_same(is_plain(grammar), True)


class TestBrings(Checks, unittest.TestCase):

    def test_examples(self):
        told = (brings_of(BOLD, (A, FA), B), brings_of(BOLD, (A,), FA), brings_of(DEEP, (A,), FA))
        self.assert_same(told, (FB, FFA, None))

    def test_edges(self):
        for book in BOOKS:
            self.assert_same((brings_of(book, (), G), brings_of(book, (G,), G)), (None, None))
        self.assert_same((brings_of(BOLD, (A, FA), FFA), brings_of(BOLD, (A, FA), FA)), (None, None))

    def test_lesser_trees_than_the_tree(self):
        self.assert_same(brings_of(BOLD, (FA,), FFA), A)
        self.assert_same(brings_of(BOLD, (FA, FB), A), B)
        self.assert_same(brings_of(BOLD, (FA, FB), B), A)
        self.assert_same(brings_of(BOLD, (FA, A), (("g", 2),) + A + A), (("f", 1), ("g", 2)) + A + A)

    def test_the_second_one_where_the_tree_is_the_least(self):
        """b is the least that comes, and what comes next is made with it."""
        self.assert_same(brings_of(BOLD, (A, (("g", 2),) + A + A), B), (("g", 2),) + A + B)
        self.assert_same(brings_of(BOLD, (A, (("g", 2),) + FA + A), B), (("g", 2),) + FA + B)
        given = ((("w", 4),) + A + B + A + B, A, B)
        self.assert_same(brings_of(BOLD, given, C), (("w", 4),) + A + A + A + C)

    def test_from_another_start(self):
        """Of the two starts of the closure one makes the tree alone, the other one makes what comes behind it."""
        groups = (("groups", (("f", 1), ("k", 2)), 0),)
        ka, kb = (("k", 1),) + A, (("k", 1),) + B
        self.assert_same(brings_of(groups, (FA, kb), FB), ka)
        self.assert_same(brings_of(groups, (FA, kb), ka), FB)
        # f(m(b)) comes by the start of f(b), but k(a) is ahead of it; not so if k stands above m, too.
        fma, fmb = (("f", 1), ("m", 1)) + A, (("f", 1), ("m", 1)) + B
        self.assert_same(brings_of(groups, (FA, fma, kb), FB), ka)
        self.assert_same(brings_of(groups, (FA, fma, (("k", 1),) + kb), FB), fmb)

    def test_drawn_trees(self):
        draw = Draw(305)
        told = {"none": 0, "before": 0, "behind": 0, "long": 0}
        for book in BOOKS:
            for _ in range(15):
                sentences = drawn_sentences(draw, draw.below(5), SMALL_TREES[:60])
                tree = draw.one_of(SMALL_TREES[:90])
                less = closure_by_hand(book, sentences)
                more = less if tree in sentences else closure_by_hand(book, sentences + (tree,))
                wanted = None if less.leads_to(tree) else next(
                    (other for other in SIX if other != tree and more.leads_to(other) and not less.leads_to(other)), None)
                brought = brings_of(book, sentences, tree)
                if wanted is None and brought is not None:
                    self.assertGreater(oracle.key(brought), oracle.key(SIX[-1]))
                    self.assertTrue(more.leads_to(brought) and not less.leads_to(brought))
                    told["long"] += 1
                    continue
                self.assert_same(brought, wanted)
                word = "none" if wanted is None else "before" if oracle.key(wanted) < oracle.key(tree) else "behind"
                told[word] += 1
        self.assertGreater(min(told.values()), 5)

    def test_a_long_tree_with_many_pieces(self):
        """The closure of the tree alone needs many pieces, but what comes with it is told at once."""
        words = [(("x" + str(k), 0),) for k in range(15)]
        tree = (("w", 4),) + words[0] + words[1] + words[2] + words[3]
        for k in range(4, 15, 3):
            tree = (("w", 4),) + tree + words[k] + words[k + 1 if k < 14 else k] + words[k + 2 if k < 13 else k]
        standing = (A, B, (("w", 4),) + A + A + A + A)
        self.assert_same(brings_of(BOLD, standing, tree), (("w", 4),) + A + A + A + tree)

    def test_wrong_parameters(self):
        for thing in WRONG_SENTENCES:
            self.assert_not_usable("sentences", brings_of, BOLD, thing, A)
            self.assert_not_usable("sentences", brings_of, BOLD, thing, None)
        for thing in WRONG_TREES:
            self.assert_not_usable("tree", brings_of, BOLD, (A, FA), thing)
            self.assert_not_usable("tree", brings_of, BOLD, (), thing)


if __name__ == "__main__":
    unittest.main()
