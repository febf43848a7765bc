"""What follows from the points on grammars: each sentence of [59], and G3, G4, G8 of [11]."""

import unittest

from stoodthere.fairness import breach_of, is_fair
from stoodthere.found import grammar_of
from stoodthere.grammarreadings import read_grammar
from stoodthere.grammartexts import grammar_text
from stoodthere.lessons import lessons_of, rule_lessons
from stoodthere.making import takes
from stoodthere.maps import within_map
from stoodthere.orders import in_order, is_ahead
from stoodthere.partings import lies_within
from stoodthere.ringchecker import lets_ring
from stoodthere.rings import pumped, ring_of
from stoodthere.splits import split_of
from stoodthere.trims import plain_of, teaching_number, trimmed
from tests import oracle
from tests.checks import Checks
from tests.samples import BOLD, BOOKS, DEEP, EVEN, FAIR_DEEP, FOUND, LONG, ODD, SMALL_SYMBOLS, SMALL_TREES, Draw
from tests.samples import drawn_driven, drawn_grammar, drawn_sentences, trees_up_to

SIX = trees_up_to(SMALL_SYMBOLS, 6)
FEW_KINDS = tuple(book for book in BOOKS if max([simple[1] for simple in book if simple[0] == "depth"], default=0) < 2)


def drawn_fair(seed, many, books=BOOKS):
    """Books with fair grammars: found ones, their names numbered anyhow, and the sentences that they are of."""
    draw = Draw(seed)
    for book in books:
        for _ in range(many):
            sentences = drawn_sentences(draw, 1 + draw.below(5), SMALL_TREES[:60])
            grammar = grammar_of(book, sentences)
            yield draw, book, sentences, oracle.renamed(grammar, draw.some_of(range(grammar[0]), grammar[0]))


class TestGrammarConsequences(Checks, unittest.TestCase):

    def test_texts_there_and_back(self):
        draw = Draw(260)
        for _ in range(100):
            grammar = drawn_grammar(draw, 1 + draw.below(12), draw.below(20))
            self.assert_same(read_grammar(grammar_text(grammar)), grammar)
        for _, _, _, grammar in drawn_fair(261, 3):
            self.assert_same(read_grammar(grammar_text(grammar)), grammar)

    def test_the_lot_is_kept(self):
        draw = Draw(262)
        for k in range(150):
            book = FEW_KINDS[k % len(FEW_KINDS)]
            driven = drawn_driven(draw, 1 + draw.below(4), 2 + draw.below(7))
            grammar = driven if k % 2 else drawn_grammar(draw, 1 + draw.below(3), 2 + draw.below(6))
            trim, split, plain = trimmed(grammar), split_of(book, grammar)[0], plain_of(driven)
            for tree in draw.some_of(SIX, 30):
                self.assert_same((takes(trim, tree), takes(split, tree)), (takes(grammar, tree),) * 2)
                self.assert_same(takes(plain, tree), takes(driven, tree))

    def test_plain_of_gives_one_value(self):
        for draw, _, _, grammar in drawn_fair(263, 6):
            other = oracle.renamed(grammar, draw.some_of(range(grammar[0]), grammar[0]))
            self.assert_same(plain_of(other), plain_of(grammar))

    def test_maps_and_lots_within_others(self):
        told = set()
        for draw, book, sentences, grammar in drawn_fair(264, 6):
            others = [grammar_of(book, drawn_sentences(draw, 2, SMALL_TREES[:60])), grammar_of(book, sentences[:-1]), grammar]
            for other in others:
                for one, two in ((grammar, other), (other, grammar)):
                    lies = lies_within(one, two)
                    self.assertEqual(within_map(book, one, two) is not None, lies)
                    told.add(lies)
        self.assertEqual(told, {True, False})

    def test_equal_lots_have_one_plain_grammar(self):
        """Of plain grammars that are fair for one book: the same lot exactly if they are the same."""
        told = set()
        for _, book, sentences, grammar in drawn_fair(265, 8):
            one, two = plain_of(grammar), grammar_of(book, sentences[1:])
            self.assertEqual(lies_within(one, two) and lies_within(two, one), one == two)
            told.add(one == two)
        self.assertEqual(told, {True, False})

    def test_rings(self):
        rings = 0
        for draw, _, _, grammar in drawn_fair(266, 8):
            for driven in (grammar, drawn_driven(draw, 1 + draw.below(4), 2 + draw.below(7)), EVEN, ODD, FAIR_DEEP):
                ring = ring_of(driven)
                if ring is None:
                    continue
                rings += 1
                tree, node, inner = ring
                lets_ring(driven, ring)
                for times in (0, 1, 2, 3, 5):
                    self.assert_same(takes(driven, pumped(tree, node, inner, times)), True)
                self.assert_same(pumped(tree, node, inner, 1), tree)
                self.assertEqual(len({pumped(tree, node, inner, times) for times in range(4)}), 4)
        self.assertGreater(rings, 300)

    def test_any_accepted_ring_is_pumped_within_the_lot(self):
        draw = Draw(267)
        for driven in (LONG, EVEN, FAIR_DEEP, drawn_driven(draw, 2, 8), drawn_driven(draw, 3, 12)):
            for tree in oracle.lot_among(driven, SIX)[:60]:
                made = [oracle.names_of(driven, oracle.nested(piece)) for piece in oracle.nodes(oracle.nested(tree))]
                for node in range(len(tree)):
                    for inner in range(node + 1, node + len(oracle.nodes(oracle.nested(tree))[node])):
                        if made[node] == made[inner]:
                            lets_ring(driven, (tree, node, inner))
                            for times in (0, 2, 50):
                                self.assert_same(takes(driven, pumped(tree, node, inner, times)), True)

    def test_a_fair_grammar_is_its_own_split_one(self):
        for _, book, _, grammar in drawn_fair(268, 8):
            split, pairs = split_of(book, grammar)
            self.assert_same(split, grammar)
            self.assert_same([name for name, _ in pairs], list(range(grammar[0])))

    def test_lessons_of_fair_grammars(self):
        for draw, book, sentences, grammar in drawn_fair(269, 8):
            lessons = lessons_of(book, grammar)
            self.assertEqual(len(lessons), teaching_number(grammar))
            self.assert_same(lessons_of(book, plain_of(grammar)), lessons)
            self.assert_same(grammar_of(book, lessons), plain_of(grammar))
            for tree in lessons:
                self.assert_same(takes(grammar, tree), True)
            # With further trees of the lot it stays.
            more = lessons + tuple(tree for tree in sentences if tree not in lessons)
            self.assert_same(grammar_of(book, more), plain_of(grammar))

    def test_lessons_of_other_fair_grammars(self):
        draw = Draw(270)
        fair = 0
        for k in range(900):
            book = BOOKS[k % len(BOOKS)]
            grammar = drawn_driven(draw, 1 + draw.below(3), 1 + draw.below(6))
            grammar = oracle.renamed(grammar, sorted(oracle.live_names(grammar)))
            if is_fair(book, grammar):
                fair += 1
                self.assert_same(split_of(book, grammar)[0], grammar)
                lessons = lessons_of(book, grammar)
                self.assertEqual(len(lessons), teaching_number(grammar))
                self.assert_same(grammar_of(book, lessons), plain_of(grammar))
        self.assertGreater(fair, 150)

    def test_sentences_that_teach_are_behind_the_lessons(self):
        """Taken in order from the last on, none is ahead of the lesson with the same number; and each rule is used."""
        for _, book, sentences, grammar in drawn_fair(271, 8):
            lessons = lessons_of(book, grammar)[::-1]
            taken = in_order(sentences)[::-1]
            self.assertLessEqual(len(lessons), len(taken))
            for tree, lesson in zip(taken, lessons):
                self.assert_same(is_ahead(tree, lesson), False)
            used = set().union(*[oracle.used_rules(grammar, tree) for tree in sentences])
            self.assertEqual(used, set(range(len(grammar[2]))))

    def test_lessons_of_any_grammar(self):
        draw = Draw(272)
        for k in range(120):
            book = FEW_KINDS[k % len(FEW_KINDS)]
            grammar = drawn_grammar(draw, 1 + draw.below(3), 2 + draw.below(6))
            split = split_of(book, grammar)[0]
            lessons = lessons_of(book, grammar)
            self.assertLessEqual(len(lessons), teaching_number(split))
            self.assertEqual(set(rule_lessons(book, grammar)), set(lessons))
            closure = grammar_of(book, lessons)
            self.assertLessEqual(teaching_number(closure), teaching_number(split))
            for tree in draw.some_of(oracle.lot_among(grammar, SIX), 20):
                self.assert_same(takes(closure, tree), True)

    def test_turned_and_single_grammars_are_closed(self):
        for book, grammar in ((BOLD, LONG), (BOLD, FOUND), (DEEP, FAIR_DEEP), (BOLD, EVEN)):
            self.assert_same(breach_of(book, grammar), None)
            self.assert_same(grammar_of(book, lessons_of(book, grammar)), grammar)


if __name__ == "__main__":
    unittest.main()
