"""Learners: [78], [79] and [80], held against the definition of [10]."""

import unittest

from stoodthere.errors import AtOdds, Ended, NotAsked, Taken
from stoodthere.fairness import is_fair, is_plain
from stoodthere.found import grammar_of
from stoodthere.learners import Learner
from stoodthere.making import takes
from stoodthere.trims import plain_of
from stoodthere.verdicts import verdict_of
from tests import oracle
from tests.checks import Checks
from tests.samples import A, B, BOLD, BOOKS, DEEP, DEEPEST_TREE, EMPTY, FA, FB, FFA, FOUND, G, LONG, ONE
from tests.samples import SMALL_TREES, WRONG_TREES, Draw, drawn_sentences

FEW = tuple(SMALL_TREES[:45])
TREE_TEXTS = {repr(tree) for tree in SMALL_TREES}
NO_ANSWERS = tuple(thing for thing in WRONG_TREES if not isinstance(thing, bool) and thing is not None)


class Twin:
    """A learner by the definitions, told what a Learner is told."""

    def __init__(self, book, sparing):
        self.book = book
        self.trees, self.yeses, self.noes, self.talk = [], [], [], []
        self.plain = oracle.PlainLearner(book, self.known if sparing else None)
        self.questions = None
        self.want = ("propose", EMPTY)

    def right(self):
        return oracle_once(self.trees + self.yeses)

    def known(self, tree):
        verdict = verdict_of(self.book, self.right(), oracle_once(self.noes), tree)
        return {"in": True, "out": False, "open": None}[verdict]

    def fault(self, answer):
        """The error that this answer raises, by the meaning of [79] and [9]; None if there is none."""
        word, value = self.want
        if word == "done":
            return Ended
        if word == "ask":
            if answer is not True and answer is not False:
                return NotAsked
            right, wrong = (self.right() + (value,), self.noes) if answer else (self.right(), self.noes + [value])
        else:
            if answer is None:
                return None
            if repr(answer) not in TREE_TEXTS:
                return NotAsked
            if oracle.lot_among(value, [answer]):
                return Taken
            right, wrong = self.right() + (answer,), self.noes
        return None if oracle.does_fit_something(self.book, oracle_once(right), wrong) else AtOdds

    def told(self, answer):
        word, value = self.want
        self.talk.append((word, value, answer))
        if answer is None:
            self.want = ("done", value)
            return
        try:
            if word == "propose":
                self.trees.append(answer)
                self.questions = self.plain.hear(answer)
                self.want = ("ask", next(self.questions))
            else:
                (self.yeses if answer else self.noes).append(value)
                self.want = ("ask", self.questions.send(answer))
        except StopIteration:
            self.want = ("propose", plain_of(self.plain.grammar()))

    def numbers(self):
        names, starts, rules = self.plain.grammar()
        return (len(self.trees), len(self.yeses) + len(self.noes), names, len(rules), len(starts))


def oracle_once(trees):
    return tuple(dict.fromkeys(trees))


def told_all(learner, *answers):
    for answer in answers:
        learner.told(answer)
    return learner


class TestLearners(Checks, unittest.TestCase):

    def assert_raised(self, error, answer, learner):
        before = self.all_of(learner)
        with self.assertRaises(error) as caught:
            learner.told(answer)
        self.assertIs(type(caught.exception), error)
        self.assertIs(caught.exception.answer, answer)
        self.assert_same(self.all_of(learner), before)

    def all_of(self, learner):
        return (learner.wants(), learner.wants(), learner.numbers(), learner.told_trees(), learner.yeses(),
                learner.noes(), learner.talk())

    def check(self, learner, twin):
        want = twin.want
        told = (want, want, twin.numbers(), tuple(twin.trees), tuple(twin.yeses), tuple(twin.noes), tuple(twin.talk))
        self.assert_same(self.all_of(learner), told)

    def test_example(self):
        learner = Learner(BOLD, False)
        self.assert_same(learner.told(FA), None)
        self.assert_same(learner.wants(), ("ask", FFA))
        self.assert_same(learner.told(False), None)
        self.assert_same(learner.wants(), ("propose", (2, (1,), ((0, "a", ()), (1, "f", (0,))))))
        learner.told(FB)
        self.assert_same(learner.wants(), ("ask", FB))
        self.assert_raised(AtOdds, False, learner)
        self.assert_same((learner.numbers(), learner.yeses(), learner.noes()), ((2, 1, 2, 2, 1), (), (FFA,)))

    def test_at_first(self):
        for book in BOOKS:
            for sparing in (True, False):
                learner = Learner(book, sparing)
                propose = ("propose", EMPTY)
                self.assert_same(self.all_of(learner), (propose, propose, (0, 0, 0, 0, 0), (), (), (), ()))

    def test_what_is_asked(self):
        """The names with their trees and nodes, in the sequence in which they were made."""
        learner = told_all(Learner(BOLD, False), G)
        # a is the first name, at its node of g(f(a), b); then f(a) may be a.
        self.assert_same(learner.wants(), ("ask", (("g", 2), ("f", 1)) + FA + B))
        self.assert_same(learner.numbers(), (1, 0, 1, 1, 0))
        learner.told(False)
        self.assert_same(learner.numbers(), (1, 1, 2, 2, 0))
        # b may be a, and else f(a).
        self.assert_same(learner.wants(), ("ask", (("g", 2), ("f", 1)) + B + B))
        learner.told(False)
        self.assert_same(learner.wants(), ("ask", (("g", 2),) + B + B))
        learner.told(True)
        self.assert_same(learner.numbers(), (1, 3, 2, 3, 0))
        # The whole may be a, and else f(a); no start of its kind is there yet.
        self.assert_same(learner.wants(), ("ask", (("g", 2), ("f", 1)) + G + B))
        learner.told(False)
        self.assert_same(learner.wants(), ("ask", (("g", 2),) + G + B))
        learner.told(False)
        grammar = (3, (2,), ((0, "a", ()), (1, "b", ()), (1, "f", (0,)), (2, "g", (1, 1))))
        self.assert_same((learner.wants(), learner.numbers()), (("propose", grammar), (1, 5, 3, 4, 1)))

    def test_questions_are_asked_again_unless_sparing(self):
        # f(b) was told, and then it is asked about: b may be a.
        for sparing in (False, True):
            learner = told_all(Learner(BOLD, sparing), FA, False, FB)
            if sparing:
                self.assert_same(learner.wants(), ("propose", FOUND))
            else:
                self.assert_same(learner.wants(), ("ask", FB))
                learner.told(True)
                self.assert_same((learner.wants(), learner.yeses()), (("propose", FOUND), (FB,)))
        self.assert_same(learner.numbers(), (2, 1, 2, 3, 1))

    def test_starts(self):
        """The whole gets the start of its kind without any question."""
        learner = told_all(Learner(BOLD, False), A, FA)
        self.assert_same(learner.wants(), ("propose", LONG))
        self.assert_same(learner.numbers(), (2, 0, 1, 2, 1))
        learner = told_all(Learner(DEEP, False), A, FA)
        self.assert_same(learner.wants(), ("propose", (2, (0, 1), ((0, "a", ()), (1, "f", (0,))))))
        # a is known by its rule; it is a start of its kind now, as it was not yet.
        learner = told_all(Learner(DEEP, False), FA, A)
        self.assert_same(learner.wants(), ("propose", (2, (0, 1), ((0, "a", ()), (1, "f", (0,))))))
        self.assert_same(learner.numbers(), (2, 0, 2, 2, 2))

    def test_the_end(self):
        for answers, grammar in (((), EMPTY), ((A,), ONE), ((A, FA), LONG)):
            learner = told_all(Learner(BOLD, True), *answers)
            self.assert_same(learner.told(None), None)
            self.assert_same(learner.wants(), ("done", grammar))
            self.assert_same(learner.talk()[-1], ("propose", grammar, None))
            self.assert_same(learner.numbers()[:2], (len(answers), 0))
            for answer in (None, True, False, B, 0, "a", (), [], (A,)):
                self.assert_raised(Ended, answer, learner)

    def test_not_asked(self):
        for answers in ((), (FA, False)):
            learner = told_all(Learner(BOLD, False), *answers)
            for thing in NO_ANSWERS + (True, False, 1, 0, (A, B), ("ask", A), Learner(BOLD, False)):
                self.assert_raised(NotAsked, thing, learner)
        learner = told_all(Learner(BOLD, False), FA)
        for thing in (None, 0, 1, -1, 2, "", "True", (), (True,), [], [True], A, FA, FFA, Learner(BOLD, False)):
            self.assert_raised(NotAsked, thing, learner)

    def test_taken(self):
        learner = told_all(Learner(BOLD, False), A, FA)
        for tree in (A, FA, FFA, DEEPEST_TREE):
            self.assert_raised(Taken, tree, learner)
        # A told tree whose questions are still open is in no proposal yet.
        learner = told_all(Learner(BOLD, False), FA)
        self.assert_raised(NotAsked, FA, learner)

    def test_at_odds(self):
        learner = told_all(Learner(BOLD, False), FA, False)
        # With a, or with f(f(a)) itself, what got a no would come.
        for tree in (A, FFA):
            self.assert_raised(AtOdds, tree, learner)
        self.assert_raised(NotAsked, None if learner.wants()[0] == "ask" else 7, learner)
        learner.told(FB)
        self.assert_raised(AtOdds, False, learner)
        # A no that was given may not get a yes later.
        learner = told_all(Learner(BOLD, False), (("g", 2),) + A + B, False, False, False)
        self.assert_same(learner.wants()[0], "propose")
        self.assert_same(learner.noes()[0], (("g", 2),) + B + B)
        learner = told_all(Learner(BOLD, True), FA, False)
        self.assert_raised(AtOdds, FFA, learner)

    def test_sparing(self):
        wrong = None
        for sparing in (True, False, 1, 0, None, "", (), "True", [True], 2):
            if not isinstance(sparing, bool):
                self.assert_not_usable("sparing", Learner, BOLD, sparing)
                wrong = sparing
        self.assertEqual(wrong, 2)
        learner = Learner(sparing=True, book=BOLD)
        learner.told(answer=FA)
        self.assert_same(learner.wants(), ("ask", FFA))

    def test_results_belong_to_the_caller(self):
        learner = told_all(Learner(BOLD, False), FA)
        told = self.all_of(learner)
        kept = repr(told)
        told_all(learner, False, FB, True, None)
        self.assertEqual(repr(told), kept)

    def check_answers(self, draw, learner, twin, many):
        """Tells both what is drawn, refused answers among it."""
        refused = {}
        for _ in range(many):
            if twin.want[0] == "ask":
                answer = draw.one_of((True, False, True, False, None, 1, 0, A))
            else:
                answer = draw.one_of(FEW) if draw.below(8) else draw.one_of((None, True, 0, (), draw.one_of(NO_ANSWERS)))
                if answer is None and draw.below(3):
                    continue
            error = twin.fault(answer)
            if error is None:
                learner.told(answer)
                twin.told(answer)
            else:
                refused[error] = refused.get(error, 0) + 1
                self.assert_raised(error, answer, learner)
            self.check(learner, twin)
            if len(oracle.all_pieces(twin.right())) > 14:
                break
        return refused

    def test_drawn_talks(self):
        draw = Draw(440)
        refused = {}
        for k in range(100):
            book, sparing = BOOKS[k % len(BOOKS)], draw.below(2) == 1
            learner, twin = Learner(book, sparing), Twin(book, sparing)
            for error, many in self.check_answers(draw, learner, twin, 14).items():
                refused[error] = refused.get(error, 0) + many
            grammar = twin.want[1]
            if twin.want[0] != "ask":
                self.assert_same((is_plain(grammar), is_fair(book, grammar)), (True, True))
        self.assertGreater(min(refused.get(error, 0) for error in (Ended, NotAsked, Taken, AtOdds)), 3)

    def test_answers_of_a_lot(self):
        """Told by a lot, a learner gets to its grammar; each answer is fitting."""
        draw = Draw(441)
        for k in range(100):
            book, sparing = BOOKS[k % len(BOOKS)], k % 2 == 1
            lot = grammar_of(book, drawn_sentences(draw, 1 + draw.below(5), FEW))
            learner, twin = Learner(book, sparing), Twin(book, sparing)
            while twin.want[0] != "done":
                if twin.want[0] == "ask":
                    answer = takes(lot, twin.want[1])
                else:
                    left = [tree for tree in FEW if takes(lot, tree) and not takes(twin.want[1], tree)]
                    answer = draw.one_of(left) if left else None
                learner.told(answer)
                twin.told(answer)
                self.check(learner, twin)
            self.assert_same(takes(lot, twin.trees[0]), True)


if __name__ == "__main__":
    unittest.main()
