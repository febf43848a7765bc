"""What follows from the points on texts, events and the desk: each sentence of [101], and (G12) of [11]."""

import unittest

from stoodthere.chainpapers import chain_paper
from stoodthere.desk import Desk
from stoodthere.errors import InvalidText, LiveError
from stoodthere.eventtexts import event_line, log_text, read_event, read_log
from stoodthere.found import grammar_of
from stoodthere.joinlists import joins_of
from stoodthere.journals import fresh_desk, merged_desks, replayed
from stoodthere.lessons import lessons_of
from stoodthere.making import takes
from stoodthere.paperreadings import read_chain, read_joins
from stoodthere.papertexts import chain_text, joins_text
from tests.checks import Checks
from tests.samples import BOOKS, EMPTY, SMALL_TREES, Draw, drawn_sentences

FEW = tuple(SMALL_TREES[:16])
SOME = tuple(SMALL_TREES[:40])


def drawn_desk(draw, book, many):
    desk = Desk(book)
    for _ in range(many):
        try:
            if draw.below(10) == 0:
                desk.change_book(draw.one_of(BOOKS))
            elif draw.below(6) == 0:
                desk.undo(draw.below(3))
            else:
                desk.do_event((draw.one_of(("put", "put", "bar", "take", "free")), draw.one_of(FEW)))
        except LiveError:
            pass
    return desk


def answers(desk, trees):
    """All that the methods of [99] tell, asked of these trees."""
    told = [desk.grammar(), desk.lessons(), desk.lean(), desk.quarrel(), desk.boldest()]
    for tree in trees:
        told += [desk.verdict(tree), desk.paper(tree), desk.brings(tree), desk.mended(tree)]
    for k in range(5):
        told += [desk.doubt(k), desk.counted(k), desk.tree_by(k), desk.reading(("a", "b", "a", "b")[:k])]
    return told


def answers_by_lot(desk, trees):
    """What the verdicts and the found grammar tell."""
    told = [desk.grammar(), desk.lessons()] + [desk.verdict(tree) for tree in trees]
    told += [desk.mended(tree) for tree in trees] + [desk.counted(k) for k in range(6)] + [desk.tree_by(k) for k in range(4)]
    return told + [desk.reading(words) for words in ((), ("a",), ("b", "a"), ("a", "a"))]


class TestConsequences(Checks, unittest.TestCase):

    def test_papers_there_and_back(self):
        draw = Draw(560)
        for k in range(60):
            book = BOOKS[k % len(BOOKS)]
            given = drawn_sentences(draw, 2 + draw.below(4))
            joins = joins_of(book, given)
            self.assert_same(read_joins(joins_text(joins)), joins)
            for tree in draw.some_of(lessons_of(book, grammar_of(book, given)), 2):
                chain = chain_paper(book, given, tree)
                self.assert_same(read_chain(chain_text(chain)), chain)

    def test_texts_that_are_read(self):
        """They are written as they were; those with a sign more or less among them."""
        draw = Draw(561)
        read = 0
        for k in range(60):
            desk = drawn_desk(draw, BOOKS[k % len(BOOKS)], 8)
            log = desk.log()
            self.assert_same(read_log(log_text(log)), log)
            for event in log:
                self.assert_same(read_event(event_line(event)), event)
            joins = joins_of(desk.state()[0], desk.state()[1])
            for reader, writer, text in ((read_log, log_text, log_text(log)), (read_joins, joins_text, joins_text(joins))):
                for _ in range(15):
                    at = draw.below(len(text) + 1)
                    spoilt = text[:at] + draw.one_of(("", "a", "1", "f(a)", "\n", " ")) + text[at + draw.below(2):]
                    try:
                        told = reader(spoilt)
                    except InvalidText:
                        continue
                    read += 1
                    self.assert_same(writer(told), spoilt)
        self.assertGreater(read, 100)

    def test_a_desk_is_as_a_fresh_one(self):
        draw = Draw(562)
        for k in range(60):
            desk = drawn_desk(draw, BOOKS[k % len(BOOKS)], 18)
            fresh = fresh_desk(desk.state())
            self.assertIs(desk == fresh, True)
            self.assert_same(fresh.state(), desk.state())
            trees = draw.some_of(SOME, 3)
            self.assert_same(answers(fresh, trees), answers(desk, trees))
            # And so it is behind further deeds.
            for other in (desk, fresh):
                other.do_all((("book", BOOKS[k % 5]), ("put", SMALL_TREES[50]), ("bar", SMALL_TREES[51])), False)
            self.assertIs(desk == fresh, True)
            self.assert_same(answers(fresh, trees), answers(desk, trees))

    def test_a_log_tells_all(self):
        draw = Draw(563)
        for k in range(80):
            book = BOOKS[k % len(BOOKS)]
            desk = drawn_desk(draw, book, 18)
            again = replayed(book, desk.log())
            self.assertIs(again == desk, True)
            self.assert_same((again.state(), again.log()), (desk.state(), desk.log()))
            if k % 4 == 0:
                trees = draw.some_of(SOME, 2)
                self.assert_same(answers(again, trees), answers(desk, trees))
            steps = draw.below(len(desk.log()) + 1)
            desk.undo(steps)
            again.undo(steps)
            self.assert_same((again.state(), again.log()), (desk.state(), desk.log()))
            self.assert_same(replayed(book, read_log(log_text(desk.log()))).state(), desk.state())

    def test_one_closure_tells_the_same(self):
        draw = Draw(564)
        for k in range(60):
            book = BOOKS[k % len(BOOKS)]
            standing = drawn_sentences(draw, 1 + draw.below(4), FEW)
            barred = tuple(draw.some_of(FEW, draw.below(3)))
            found = grammar_of(book, standing)
            one = fresh_desk((book, standing, barred))
            # Lessons, and trees of the lot beside them, in whatever sequence.
            more = [tree for tree in FEW if takes(found, tree)]
            others = dict.fromkeys(draw.some_of(lessons_of(book, found) + tuple(draw.some_of(more, 2)), 60))
            two = fresh_desk((book, tuple(others), tuple(draw.some_of(barred, 3))))
            self.assert_same(two.grammar(), found)
            trees = draw.some_of(SOME, 4)
            self.assert_same(answers_by_lot(one, trees), answers_by_lot(two, trees))

    def test_merged_desks_tell_the_same(self):
        draw = Draw(565)
        for k in range(60):
            book = BOOKS[k % len(BOOKS)]
            one, two = drawn_desk(draw, book, 8), drawn_desk(draw, book, 8)
            one.change_book(book)
            two.change_book(book)
            there, back = merged_desks(one, two), merged_desks(two, one)
            self.assert_same(there.grammar(), back.grammar())
            trees = draw.some_of(SOME, 3)
            self.assert_same(answers_by_lot(there, trees), answers_by_lot(back, trees))
            for trees, others in zip(there.state()[1:], back.state()[1:]):
                self.assert_same(sorted(trees), sorted(others))

    def test_ahead_of_any_deed(self):
        for book in BOOKS:
            desk = Desk(book)
            self.assert_same((desk.grammar(), desk.boldest(), desk.quarrel()), (EMPTY, 0, None))
            for tree in FEW:
                self.assert_same((desk.brings(tree), desk.mended(tree), desk.verdict(tree)), (None, None, "open"))
            for k in (0, 1, 59):
                told = (desk.doubt(k), desk.tree_by(k), desk.tree_by(10 ** k), desk.reading(("a",) * (k % 9)))
                self.assert_same(told, (None,) * 4)


if __name__ == "__main__":
    unittest.main()
