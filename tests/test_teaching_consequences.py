"""What follows from the points on teaching and learning: each sentence of [84], and (G4), (G9) and (G10) of [11]."""

import unittest

from stoodthere.errors import AtOdds, StoodError
from stoodthere.fairness import is_fair, is_plain
from stoodthere.found import grammar_of
from stoodthere.kinds import kind_of
from stoodthere.learners import Learner
from stoodthere.led import led_on
from stoodthere.lessons import lessons_of
from stoodthere.making import takes
from stoodthere.partings import lies_within
from stoodthere.runs import name_of, unmade_in
from stoodthere.streams import Stream
from stoodthere.talkchecker import lets_talk
from stoodthere.teachers import Teacher
from stoodthere.teaching import is_taught, question_bound, unused_rules
from stoodthere.trims import plain_of, teaching_number
from stoodthere.verdicts import verdict_of
from tests import oracle
from tests.checks import Checks
from tests.samples import BOOKS, SMALL_TREES, Draw, drawn_sentences

FEW = tuple(SMALL_TREES[:45])


def once(trees):
    return tuple(dict.fromkeys(trees))


def drawn_fairs(seed, many):
    draw = Draw(seed)
    for k in range(many):
        book = BOOKS[k % len(BOOKS)]
        yield draw, book, grammar_of(book, drawn_sentences(draw, 1 + draw.below(6)))


class Asked(oracle.PlainLearner):
    """Counts its questions by the kinds of the pieces that they are about."""

    def __init__(self, book):
        super().__init__(book)
        self.asked = {}

    def name_for(self, tree, whole, path):
        own = oracle.kind(self.book, oracle.flat(whole))
        questions = super().name_for(tree, whole, path)
        try:
            question = next(questions)
            while True:
                self.asked[own] = self.asked.get(own, 0) + 1
                question = questions.send((yield question))
        except StopIteration as end:
            return end.value

    def hear_by(self, fair, tree):
        questions = self.hear(tree)
        try:
            question = next(questions)
            while True:
                question = questions.send(takes(fair, question))
        except StopIteration:
            pass


class TestConsequences(Checks, unittest.TestCase):

    def test_all_lessons_teach(self):
        for draw, book, fair in drawn_fairs(470, 120):
            lessons = lessons_of(book, fair)
            lot = [tree for tree in SMALL_TREES if takes(fair, tree)]
            trees = once(lessons + tuple(draw.some_of(lot, draw.below(5))))
            self.assert_same(is_taught(book, trees, fair), True)
            self.assert_same(grammar_of(book, trees), plain_of(fair))
            self.assert_same(unused_rules(fair, trees), ())
            self.assertEqual(len(lessons), teaching_number(fair))
            for many in range(teaching_number(fair)):
                self.assert_same(is_taught(book, tuple(draw.some_of(lessons, many)), fair), False)
                self.assert_same(is_taught(book, tuple(draw.some_of(lot, many)), fair), False)

    def test_taught_sentences_use_all_rules(self):
        taught = 0
        for draw, book, fair in drawn_fairs(471, 200):
            lot = [tree for tree in SMALL_TREES if takes(fair, tree)]
            trees = tuple(draw.some_of(lot, teaching_number(fair) + draw.below(3)))
            if is_taught(book, trees, fair):
                taught += 1
                self.assert_same(unused_rules(fair, trees), ())
        self.assertGreater(taught, 30)

    def wants_of(self, talk):
        return [grammar for word, grammar, _ in talk if word == "propose"]

    def test_proposals(self):
        """They are plain and fair, have all trees told ahead of them, and each lies within the next."""
        draw = Draw(472)
        for k in range(120):
            book, sparing = BOOKS[k % len(BOOKS)], k % 2 == 0
            learner = Learner(book, sparing)
            for _ in range(25):
                want = learner.wants()
                if want[0] == "propose":
                    self.assert_same((is_plain(want[1]), is_fair(book, want[1])), (True, True))
                    for tree in learner.told_trees() + learner.yeses():
                        self.assert_same(takes(want[1], tree), True)
                    for tree in learner.noes():
                        self.assert_same(takes(want[1], tree), False)
                    # Within each closed lot that has what was told and got a yes: within their closure.
                    right = once(learner.told_trees() + learner.yeses())
                    self.assert_same(lies_within(want[1], grammar_of(book, right)), True)
                try:
                    learner.told(draw.one_of(FEW) if want[0] == "propose" else draw.below(3) == 0)
                except StoodError:
                    pass
            proposals = self.wants_of(learner.talk())
            for one, two in zip(proposals, proposals[1:]):
                self.assert_same(lies_within(one, two), True)
            self.assert_same(lets_talk(book, sparing, learner.talk()), False)

    def test_sparing_learners_are_at_odds_for_told_trees_alone(self):
        draw = Draw(473)
        told = 0
        for k in range(120):
            book = BOOKS[k % len(BOOKS)]
            learner = Learner(book, True)
            for _ in range(16):
                word, value = learner.wants()
                if word == "ask":
                    right = once(learner.told_trees() + learner.yeses())
                    self.assert_same(verdict_of(book, right, once(learner.noes()), value), "open")
                    learner.told(draw.below(3) == 0)
                    continue
                try:
                    learner.told(draw.one_of(FEW))
                except AtOdds:
                    told += 1
                except StoodError:
                    pass
        self.assertGreater(told, 20)

    def check_counts(self, book, fair, learner):
        """How many trees were told and questions asked, in all and for each kind."""
        told, asked, names, rules, starts = learner.numbers()
        self.assertLessEqual(told, teaching_number(fair))
        self.assertLessEqual(asked, question_bound(book, fair))
        self.assertEqual((names, rules, starts), (fair[0], len(fair[2]), len(fair[1])))

    def test_led_learners(self):
        for draw, book, fair in drawn_fairs(474, 150):
            lot = [tree for tree in SMALL_TREES if takes(fair, tree)]
            order = tuple(draw.some_of(lot, draw.below(20)) + draw.some_of(SMALL_TREES, draw.below(5)))
            teacher = Teacher(book, fair, order)
            plain, sparing = Learner(book, False), Learner(book, True)
            self.assert_same((led_on(plain, teacher), led_on(sparing, teacher)), (plain_of(fair), plain_of(fair)))
            self.check_counts(book, fair, plain)
            self.check_counts(book, fair, sparing)
            self.assertLessEqual(sparing.numbers()[1], plain.numbers()[1])
            self.assert_same(sparing.told_trees(), plain.told_trees())
            for learner, is_sparing in ((plain, False), (sparing, True)):
                self.assert_same(lets_talk(book, is_sparing, learner.talk()), True)
            # What was told, and what got a yes, teaches the grammar.
            self.assert_same(is_taught(book, once(plain.told_trees() + plain.yeses()), fair), True)

    def test_trees_told_and_yeses(self):
        """Unless sparing as many as the teaching number, and told trees whose root was known while their kind had a start."""
        more = 0
        for draw, book, fair in drawn_fairs(475, 200):
            learner = Learner(book, False)
            led_on(learner, Teacher(book, fair, tuple(draw.some_of(SMALL_TREES, 40))))
            plain = oracle.PlainLearner(book)
            plain.hear_all(learner.talk())
            self.assert_same(plain_of(plain.grammar()), plain_of(fair))
            total = len(learner.told_trees()) + len(learner.yeses())
            self.assertEqual(total, teaching_number(fair) + plain.known_roots)
            more += plain.known_roots
        self.assertGreater(more, 0)

    def test_questions_of_each_kind(self):
        """For a kind with n names and r rules with results of it, at most n (n - 1) / 2 + (r - n) n questions."""
        for draw, book, fair in drawn_fairs(476, 120):
            kinds = [kind_of(book, tree) for tree in oracle.least_by_names(fair, SMALL_TREES)]
            learner = Asked(book)
            lot = [tree for tree in SMALL_TREES if takes(fair, tree)]
            for tree in draw.some_of(lot, 12) + list(lessons_of(book, fair)):
                learner.hear_by(fair, tree)
            self.assert_same(plain_of(learner.grammar()), plain_of(fair))
            bound = 0
            for one in set(kinds):
                n = kinds.count(one)
                r = len([rule for rule in fair[2] if kinds[rule[0]] == one])
                self.assertLessEqual(learner.asked.get(one, 0), n * (n - 1) // 2 + (r - n) * n)
                bound += n * (n - 1) // 2 + (r - n) * n
            self.assertEqual(question_bound(book, fair), bound)

    def test_streams(self):
        draw = Draw(477)
        for k in range(100):
            book = BOOKS[k % len(BOOKS)]
            stream = Stream(book)
            for _ in range(8):
                tree = draw.one_of(FEW)
                before = stream.form()
                self.assert_same(stream.hear(tree), not takes(before, tree))
                self.assert_same(lies_within(before, stream.form()), True)
                self.assert_same((takes(stream.form(), tree), unmade_in(stream.form(), tree)), (True, ()))
                self.assertIn(name_of(stream.form(), tree), stream.form()[1])
                self.assertLessEqual(stream.changes(), len(stream.heard()))
        for draw, book, fair in drawn_fairs(478, 60):
            stream = Stream(book)
            lot = [tree for tree in SMALL_TREES if takes(fair, tree)]
            for tree in tuple(draw.some_of(lot, 4)) + lessons_of(book, fair) + tuple(draw.some_of(lot, 4)):
                stream.hear(tree)
            # As soon as all lessons are among what was heard, it has this lot.
            self.assert_same(stream.form(), plain_of(fair))


if __name__ == "__main__":
    unittest.main()
