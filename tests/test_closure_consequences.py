"""What follows from the points on closures: each sentence of [49], and of [39] with fences and papers beside it."""

import unittest

from stoodthere.calledjoins import called_tree, classes_with
from stoodthere.chainchecker import lets_chain
from stoodthere.chainpapers import chain_paper, joins_count
from stoodthere.closures import Closure
from stoodthere.errors import InvalidPaper
from stoodthere.exchanges import exchanged
from stoodthere.fairness import is_fair
from stoodthere.fencechecker import lets_fence
from stoodthere.found import grammar_of
from stoodthere.joinchecker import lets_joins
from stoodthere.joinlists import joins_of
from stoodthere.joinpapers import join_paper, short_joins
from stoodthere.ledtrees import is_led
from stoodthere.making import takes
from stoodthere.orders import in_order
from stoodthere.piecelists import pieces_of
from stoodthere.pieces import parts_of, piece_at
from stoodthere.plainclasses import plain_classes
from stoodthere.rounds import fourths_of, grown, one_round, open_exchange
from stoodthere.runs import name_of, unmade_in
from stoodthere.trims import plain_of, teaching_number, trimmed
from stoodthere.ways import needed_of, way_of
from tests import oracle
from tests.checks import Checks
from tests.samples import BOOKS, SMALL_SYMBOLS, SMALL_TREES, Draw, drawn_grammar, drawn_sentences, trees_up_to

FEW = trees_up_to(SMALL_SYMBOLS, 4)
SIX = trees_up_to(SMALL_SYMBOLS, 6)


def lots(seed, many, most=5):
    """Books with a few drawn sentences each."""
    draw = Draw(seed)
    for book in BOOKS:
        for _ in range(many):
            yield draw, book, drawn_sentences(draw, 1 + draw.below(most), SMALL_TREES[:100])


def grammar_by_classes(classes, sentences):
    """The grammar with these classes, tuples of pieces, as names."""
    number = {piece: k for k, row in enumerate(classes) for piece in row}
    rules = {(number[piece], piece[0][0], tuple(number[part] for part in parts_of(piece))) for piece in number}
    return (len(classes), tuple(sorted({number[tree] for tree in sentences})), tuple(sorted(rules)))


class TestClassesAndJoins(Checks, unittest.TestCase):

    def test_classes_do_not_depend_on_the_sequence(self):
        for draw, book, sentences in lots(210, 8):
            other = tuple(draw.some_of(sentences, len(sentences)))
            self.assert_same(plain_classes(book, other), plain_classes(book, sentences))
            self.assert_same(lets_joins(book, sentences, joins_of(book, other)), plain_classes(book, sentences))

    def test_lets_joins_returns_the_classes(self):
        for _, book, sentences in lots(211, 8):
            self.assert_same(lets_joins(book, sentences, joins_of(book, sentences)), plain_classes(book, sentences))

    def test_joins_are_as_many_as_pieces_less_classes(self):
        for _, book, sentences in lots(212, 8):
            box = Closure(book)
            for tree in sentences:
                box.put(tree)
                pieces, classes, joins = box.numbers()
                self.assertEqual(joins, pieces - classes)
                self.assertEqual((pieces, classes), (len(pieces_of(box.standing())), len(box.classes())))
                self.assertEqual((joins, joins), (len(box.joins()), joins_count(book, box.standing())))

    def test_after_any_deeds_a_closure_tells_what_a_new_one_does(self):
        for draw, book, sentences in lots(213, 3):
            box = Closure(book)
            for _ in range(12):
                tree = draw.one_of(SMALL_TREES[:20])
                if tree in box.standing():
                    box.take(tree)
                elif draw.below(5) == 0:
                    box.take_last()
                else:
                    box.put(tree)
                new = Closure(book)
                for other in box.standing():
                    new.put(other)
                self.assertTrue(box == new)
                told = [(one.classes(), one.joins(), one.numbers(), [one.takes_in(tree) for tree in FEW]) for one in (box, new)]
                self.assert_same(told[0], told[1])

    def test_takes_in_is_led_and_papers(self):
        for draw, book, sentences in lots(214, 3):
            box = Closure(book)
            for tree in sentences:
                box.put(tree)
            for tree in draw.some_of(SIX, 25) + list(sentences):
                told = box.takes_in(tree)
                self.assert_same(is_led(book, sentences, box.joins(), tree), told)
                self.assertEqual(join_paper(book, box.standing(), tree) is not None, told)
                self.assertEqual(chain_paper(book, box.standing(), tree) is not None, told)
                if told:
                    self.assert_same(is_led(book, sentences, join_paper(book, sentences, tree), tree), True)
                    self.assert_same(lets_chain(book, sentences, chain_paper(book, sentences, tree))[-1], tree)

    def test_needed_joins_are_accepted_by_themselves(self):
        for _, book, sentences in lots(215, 4):
            joins = joins_of(book, sentences)
            classes = oracle.Classes(book, sentences)
            for number, join in enumerate(joins):
                needed = needed_of(book, sentences, joins, number)
                self.assertEqual(needed[-1], number)
                some = tuple(joins[k] for k in needed)
                one, two = classes.ends(join)
                row = [row for row in lets_joins(book, sentences, some) if one in row]
                self.assertIn(two, row[0])
                self.assert_same(way_of(book, sentences, some, one, two), (len(some) - 1,))
                classes.make(join)

    def test_called_tree_and_classes_with(self):
        called = 0
        for draw, book, sentences in lots(216, 6):
            tree, other = draw.one_of(sentences), draw.one_of(pieces_of(sentences))
            node = draw.below(len(tree))
            piece = piece_at(tree, node)
            if oracle.kind(book, piece) != oracle.kind(book, other):
                continue
            new = called_tree(book, sentences, tree, node, other)
            more = sentences if new in sentences else sentences + (new,)
            grammar = grammar_by_classes(classes_with(book, sentences, piece, other), sentences)
            found = grammar_of(book, more)
            self.assert_same(plain_of(grammar), found)
            for some in draw.some_of(SIX, 40):
                self.assert_same(takes(grammar, some), takes(found, some))
            called += 1
        self.assertGreater(called, 20)

    def test_of_short_joins_no_set_can_be_left_out(self):
        sets = 0
        for draw, book, sentences in lots(217, 4):
            joins = joins_of(book, sentences)
            for tree in draw.some_of([tree for tree in SIX if is_led(book, sentences, joins, tree)], 3):
                short = short_joins(book, sentences, joins, tree)
                self.assert_same(is_led(book, sentences, short, tree), True)
                for left_out in range(1, min(2 ** len(short), 128)):
                    others = tuple(join for k, join in enumerate(short) if not left_out >> k & 1)
                    self.assertFalse(self.do_lead(book, sentences, others, tree))
                    sets += 1
        self.assertGreater(sets, 100)

    def do_lead(self, book, given, joins, tree):
        try:
            lets_joins(book, given, joins)
        except InvalidPaper:
            return False
        return is_led(book, given, joins, tree)


class TestLots(Checks, unittest.TestCase):

    def test_all_lies_in_the_closure(self):
        """What exchanged and fourths_of return, the trees of chains, and those that joins lead to: [39]."""
        for draw, book, sentences in lots(218, 2, 3):
            box = Closure(book)
            for tree in sentences:
                box.put(tree)
            for fourth in fourths_of(book, sentences):
                self.assert_same(box.takes_in(fourth), True)
            for one, two, node, third, place, _ in oracle.Lot(book, sentences).exchanges():
                self.assert_same(box.takes_in(exchanged(book, one, two, node, third, place)), True)
            for tree in grown(book, sentences, 5, 2):
                self.assert_same(box.takes_in(tree), True)
                if len(tree) <= 5:
                    for other in lets_chain(book, sentences, chain_paper(book, sentences, tree)):
                        self.assert_same(box.takes_in(other), True)
            joins = box.joins()
            some = joins[:draw.below(len(joins) + 1)]
            for tree in FEW:
                self.assertLessEqual(is_led(book, sentences, some, tree), box.takes_in(tree))

    def test_grown_to_the_end_has_all_of_the_closure(self):
        for _, book, sentences in lots(219, 2, 3):
            if max(len(tree) for tree in sentences) > 4:
                continue
            lot = grown(book, sentences, 4, 20)
            if len(lot) <= 60:
                self.assert_same(one_round(book, lot, 4), lot)
                self.assert_same(lot, tuple(tree for tree in FEW if join_paper(book, sentences, tree) is not None))

    def test_fair_grammars_are_closed(self):
        """Fences of found grammars: they hold the sentences, and no exchange leads out of their lots."""
        for _, book, sentences in lots(220, 4, 3):
            grammar = grammar_of(book, sentences)
            self.assert_same(is_fair(book, grammar), True)
            outside = tuple(tree for tree in FEW if not takes(grammar, tree))
            self.assert_same(lets_fence(book, sentences, outside[:60], grammar), grammar[0])
            lot = in_order(tuple(tree for tree in FEW if takes(grammar, tree)) + sentences)
            found = open_exchange(book, lot)
            self.assertTrue(found is None or takes(grammar, found[5]))


class TestGrammars(Checks, unittest.TestCase):

    def test_trimmed_and_plain_keep_the_lot(self):
        draw = Draw(221)
        for _ in range(80):
            grammar = drawn_grammar(draw, 1 + draw.below(4), 2 + draw.below(8))
            trim = trimmed(grammar)
            for tree in draw.some_of(SIX, 30):
                self.assert_same(takes(trim, tree), takes(grammar, tree))

    def test_runs_of_found_grammars(self):
        """In the found grammar each piece of a tree of the lot is made, and one name makes it."""
        for draw, book, sentences in lots(222, 3):
            grammar = grammar_of(book, sentences)
            for tree in draw.some_of(SIX, 15) + list(sentences):
                if takes(grammar, tree):
                    self.assert_same(unmade_in(grammar, tree), ())
                    self.assertIn(name_of(grammar, tree), grammar[1])
            self.assertLessEqual(teaching_number(grammar), len(sentences))


if __name__ == "__main__":
    unittest.main()
