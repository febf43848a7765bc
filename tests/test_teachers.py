"""Teachers, leading learners on, the checker of talks, and streams: [81], [82] and [83]."""

import unittest

from stoodthere.errors import StoodError
from stoodthere.found import grammar_of
from stoodthere.learners import Learner
from stoodthere.led import led_on
from stoodthere.making import takes
from stoodthere.streams import Stream
from stoodthere.talkchecker import lets_talk
from stoodthere.teachers import Teacher
from stoodthere.trims import plain_of
from tests import oracle
from tests.checks import Checks
from tests.samples import A, B, BOLD, BOOKS, DEEP, DEEPEST_TREE, EMPTY, EVEN, FA, FAIR_DEEP, FB, FFA, FOUND, G, LONG
from tests.samples import ODD, ONE, SMALL_TREES, WRONG_GRAMMARS, WRONG_TREES, Draw, drawn_driven, drawn_sentences

FEW = tuple(SMALL_TREES[:60])
OTHER = (2, (0,), ((0, "f", (1,)), (1, "a", ()), (1, "b", ())))


def told_all(learner, *answers):
    for answer in answers:
        learner.told(answer)
    return learner


class TestTeachers(Checks, unittest.TestCase):

    def test_example(self):
        teacher = Teacher(BOLD, LONG, (B, FFA))
        self.assert_same(teacher.reply(("propose", (0, (), ()))), FFA)
        self.assert_same(teacher.reply(("ask", FB)), False)
        self.assert_same(teacher.reply(("propose", LONG)), None)

    def test_questions(self):
        for order in ((), (B, FFA)):
            teacher = Teacher(BOLD, FOUND, order)
            told = [teacher.reply(("ask", tree)) for tree in (A, B, FA, FB, FFA, G, DEEPEST_TREE)]
            self.assert_same(told, [False, False, True, True, False, False, False])

    def test_order(self):
        """The first one of order that is missing, wherever it stands; then the least tree that is missing."""
        order = (B, FFA, FFA, G, A, FA)
        teacher = Teacher(BOLD, LONG, order)
        self.assert_same(teacher.reply(("propose", EMPTY)), FFA)
        self.assert_same(teacher.reply(("propose", EVEN)), FA)
        self.assert_same(teacher.reply(("propose", ODD)), FFA)
        teacher = Teacher(BOLD, LONG, (B, A, A))
        self.assert_same(teacher.reply(("propose", ONE)), FA)
        self.assert_same(teacher.reply(("propose", (2, (0, 1), ((0, "a", ()), (1, "f", (0,)))))), FFA)
        # What is proposed beside the lot does not matter here.
        self.assert_same(teacher.reply(("propose", (1, (0,), LONG[2][:1] + ((0, "b", ()),) + LONG[2][1:]))), None)
        self.assert_same(Teacher(BOLD, EMPTY, (A,)).reply(("propose", EMPTY)), None)
        # A grammar with names numbered otherwise, and with names that make nothing.
        self.assert_same(Teacher(BOLD, FOUND, ()).reply(("propose", OTHER)), None)
        self.assert_same(Teacher(BOLD, OTHER, ()).reply(("propose", FOUND)), None)
        self.assert_same(Teacher(BOLD, OTHER, ()).reply(("propose", (3, (1, 2), ((0, "b", ()), (1, "f", (0,)))))), FA)

    def test_drawn_replies(self):
        draw = Draw(460)
        seen = {"order": 0, "least": 0, "none": 0}
        for k in range(150):
            book = BOOKS[k % len(BOOKS)]
            fair = grammar_of(book, drawn_sentences(draw, 1 + draw.below(4), FEW))
            order = tuple(draw.one_of(FEW) for _ in range(draw.below(12)))
            teacher = Teacher(book, fair, order)
            for _ in range(4):
                grammar = drawn_driven(draw, 1 + draw.below(3), 2 + draw.below(9)) if draw.below(3) else fair
                left = [tree for tree in order + tuple(SMALL_TREES)
                        if oracle.lot_among(fair, [tree]) and not oracle.lot_among(grammar, [tree])]
                told = teacher.reply(("propose", grammar))
                if left:
                    self.assert_same(told, left[0])
                    seen["order" if left[0] in order else "least"] += 1
                else:
                    self.assertTrue(told is None or len(told) > 5)
                    seen["none"] += 1
                tree = draw.one_of(FEW)
                self.assert_same(teacher.reply(("ask", tree)), oracle.lot_among(fair, [tree]) == [tree])
        self.assertGreater(min(seen.values()), 20)

    def test_wrong_parameters(self):
        for thing in WRONG_GRAMMARS + (FAIR_DEEP, (2, (0, 1), ((0, "a", ()), (1, "b", ())))):
            self.assert_not_usable("fair", Teacher, BOLD, thing, ())
            self.assert_not_usable("fair", Teacher, BOLD, thing, None)
        self.assert_not_usable("fair", Teacher, DEEP, LONG, ())
        for thing in (None, True, 0, "", [], [A], A, (A, None), (A, [("a", 0)])) + tuple((tree,) for tree in WRONG_TREES):
            self.assert_not_usable("order", Teacher, BOLD, LONG, thing)
        teacher = Teacher(order=(A, A), fair=LONG, book=BOLD)
        self.assert_same(teacher.reply(want=("propose", EMPTY)), A)


class TestLed(Checks, unittest.TestCase):

    def test_example(self):
        pupil = Learner(BOLD, False)
        self.assert_same((led_on(pupil, Teacher(BOLD, LONG, ())), pupil.told_trees()), (LONG, (A, FA)))
        self.assert_same((lets_talk(BOLD, False, ()), lets_talk(BOLD, False, pupil.talk())), (False, True))
        self.assert_same(pupil.wants(), ("done", LONG))

    def test_begun_learners(self):
        for begun in ((), (FA,), (FA, False), (FA, False, FB), (FA, False, FB, True), (FA, False, FB, True, None)):
            learner = told_all(Learner(BOLD, False), *begun)
            self.assert_same(led_on(learner, Teacher(BOLD, OTHER, (FB,))), FOUND)
            self.assert_same(learner.talk()[:len(begun)], told_all(Learner(BOLD, False), *begun).talk())
        # An ended one returns the last grammar proposed, right or not.
        learner = told_all(Learner(BOLD, True), A, None)
        self.assert_same((led_on(learner, Teacher(BOLD, LONG, ())), learner.talk()[-1][0]), (ONE, "propose"))
        self.assert_same(led_on(learner=Learner(BOLD, True), teacher=Teacher(BOLD, EMPTY, (A,))), EMPTY)

    def test_wrong_teachers(self):
        learner = told_all(Learner(BOLD, False), FA, False)
        before = (learner.wants(), learner.talk())
        things = (None, True, 0, "", (), [], A, LONG, (BOLD, LONG, ()), learner, Teacher,
                  # Another book; a lot without what was told; one with what got a no.
                  Teacher(DEEP, FAIR_DEEP, ()), Teacher(BOLD, EVEN, ()), Teacher(BOLD, EMPTY, ()),
                  Teacher(BOLD, LONG, ()), Teacher((("depth", 0),) * 2, FOUND, ()))
        for thing in things:
            self.assert_not_usable("teacher", led_on, learner, thing)
            self.assert_same((learner.wants(), learner.talk()), before)
        learner = told_all(Learner(BOLD, False), FA, True)
        self.assert_not_usable("teacher", led_on, learner, Teacher(BOLD, FOUND, ()))
        self.assert_same(led_on(learner, Teacher(BOLD, LONG, ())), LONG)
        self.assert_not_usable("teacher", led_on, learner, Teacher(BOLD, FOUND, ()))

    def test_drawn_lots(self):
        draw = Draw(461)
        for k in range(120):
            book = BOOKS[k % len(BOOKS)]
            fair = grammar_of(book, drawn_sentences(draw, 1 + draw.below(6)))
            teacher = Teacher(book, fair, tuple(draw.some_of(SMALL_TREES, draw.below(40))))
            learner, twin = Learner(book, k % 2 == 1), Learner(book, k % 2 == 1)
            # By hand, reply by reply; the other one is begun so, and led on then.
            steps = draw.below(6)
            while learner.wants()[0] != "done":
                learner.told(teacher.reply(learner.wants()))
                if steps > 0 and twin.wants()[0] != "done":
                    twin.told(teacher.reply(twin.wants()))
                    steps -= 1
            self.assert_same(led_on(twin, teacher), learner.wants()[1])
            self.assert_same(twin.talk(), learner.talk())
            self.assert_same(learner.wants(), ("done", plain_of(fair)))


class TestTalkChecker(Checks, unittest.TestCase):

    def setUp(self):
        self.talk = told_all(Learner(BOLD, False), FA, False, FB, True, None).talk()
        self.assertEqual(len(self.talk), 5)

    def test_talks(self):
        for many in range(6):
            self.assert_same(lets_talk(BOLD, False, self.talk[:many]), many == 5)
        self.assert_same(lets_talk(BOLD, True, ()), False)
        self.assert_same(lets_talk(thing=(("propose", EMPTY, None),), sparing=True, book=DEEP), True)
        # A sparing one does not ask about f(b) again.
        self.assert_refused("want", 3, lets_talk, BOLD, True, self.talk)
        self.assert_same(lets_talk(BOLD, True, self.talk[:3] + self.talk[4:]), True)

    def test_shape(self):
        for thing in (None, True, 0, "", "abc", [], list(self.talk), {}, 10 ** 59):
            self.assert_refused("shape", -1, lets_talk, BOLD, False, thing)
        for entry in (None, True, 0, "", "abc", (), [], ("propose", EMPTY), ["propose", EMPTY, None],
                      ("propose", EMPTY, None, None), EMPTY[:2]):
            for k in range(6):
                self.assert_refused("shape", k, lets_talk, BOLD, False, self.talk[:k] + (entry,) + self.talk[k:])

    def test_behind(self):
        for entry in self.talk + (("done", FOUND, None), ("ask", A, 7), (None, None, None)):
            self.assert_refused("behind", 5, lets_talk, BOLD, False, self.talk + (entry,))
            self.assert_refused("behind", 5, lets_talk, BOLD, False, self.talk + (entry, None))

    def test_want(self):
        first = (1, (0,), ((0, "a", ()),))
        grammars = (None, 0, (), [], EMPTY[:2], (False, (), ()), (0.0, (), ()), (0, [], ()), [0, (), ()], first, LONG)
        for grammar in grammars:
            self.assert_refused("want", 0, lets_talk, BOLD, False, (("propose", grammar, A),))
        for word in (None, True, 0, "", "ask", "done", "Propose", ["propose"], ("propose",)):
            self.assert_refused("want", 0, lets_talk, BOLD, False, ((word, EMPTY, A),))
        begun = told_all(Learner(BOLD, False), A).talk()
        self.assert_same(lets_talk(BOLD, False, begun + (("propose", first, None),)), True)
        for grammar in ((True, (0,), ((0, "a", ()),)), (1, (False,), ((0, "a", ()),)), (1, (0,), ((False, "a", ()),)),
                        (1, (0,), ((0, "a", []),)), (2, (0,), ((0, "a", ()),)), (1, [0], ((0, "a", ()),))):
            self.assert_refused("want", 1, lets_talk, BOLD, False, begun + (("propose", grammar, None),))
        # The same grammar with its names numbered otherwise is not the proposal.
        ahead = self.talk[:4]
        self.assert_same(lets_talk(BOLD, False, ahead + (("propose", FOUND, None),)), True)
        self.assert_refused("want", 4, lets_talk, BOLD, False, ahead + (("propose", OTHER, None),))
        for tree in WRONG_TREES + (A, FA, (("f", 1), ("f", True), ("a", 0)), list(FFA)):
            self.assert_refused("want", 1, lets_talk, BOLD, False, self.talk[:1] + (("ask", tree, False),))
        self.assert_refused("want", 1, lets_talk, BOLD, False, self.talk[:1] + (("propose", FFA, False),))

    def test_answer(self):
        for answer in (True, False, 0, (), "a", [], (("f", 1),), (A,)):
            self.assert_refused("answer", 0, lets_talk, BOLD, False, (("propose", EMPTY, answer),))
        for answer in (None, 0, 1, A, "True"):
            self.assert_refused("answer", 1, lets_talk, BOLD, False, self.talk[:1] + (("ask", FFA, answer),))
        proposed = self.talk[2][1]
        # Taken, and at odds.
        for tree in (FA, A, FFA):
            self.assert_refused("answer", 2, lets_talk, BOLD, False, self.talk[:2] + (("propose", proposed, tree),))
        self.assert_refused("answer", 3, lets_talk, BOLD, False, self.talk[:3] + (("ask", FB, False),))

    def test_each_entry_comes_ahead_of_later_ones(self):
        self.assert_refused("shape", 0, lets_talk, BOLD, False, (None, ("ask", A, 7)))
        self.assert_refused("want", 0, lets_talk, BOLD, False, (("ask", A, 7), None))
        self.assert_refused("answer", 0, lets_talk, BOLD, False, (("propose", EMPTY, 7), None))
        self.assert_refused("shape", 5, lets_talk, BOLD, False, self.talk + (None, ("ask", A, 7)))
        self.assert_refused("behind", 5, lets_talk, BOLD, False, self.talk + (("ask", A, 7), None))

    def test_sparing(self):
        for thing in (None, 0, 1, "", (), [], "True"):
            self.assert_not_usable("sparing", lets_talk, BOLD, thing, ())
            self.assert_not_usable("sparing", lets_talk, BOLD, thing, None)

    def replay(self, book, sparing, thing):
        """The entry of the list that applies, or whether the learner has ended."""
        learner = Learner(book, sparing)
        for k, entry in enumerate(thing):
            want = learner.wants()
            if want[0] == "done":
                return ("behind", k)
            if repr(entry[:2]) != repr(want):
                return ("want", k)
            try:
                learner.told(entry[2])
            except StoodError:
                return ("answer", k)
        return learner.wants()[0] == "done"

    def test_changed_talks(self):
        """One entry changed, left out or doubled."""
        draw = Draw(462)
        seen = set()
        for k in range(150):
            book, sparing = BOOKS[k % len(BOOKS)], draw.below(2) == 1
            fair = grammar_of(book, drawn_sentences(draw, 1 + draw.below(5), FEW))
            learner = Learner(book, sparing)
            led_on(learner, Teacher(book, fair, tuple(draw.some_of(FEW, 20))))
            talk = learner.talk()
            self.assert_same(lets_talk(book, sparing, talk), True)
            at = draw.below(len(talk))
            word, value, answer = talk[at]
            changed = {
                0: (word, value, draw.one_of((True, False, None, A, FA, 0))), 1: (word, draw.one_of(FEW), answer),
                2: ("ask" if word == "propose" else "propose", value, answer),
            }
            for entries in ((), (talk[at],) * 2, (changed[0],), (changed[1],), (changed[2],)):
                thing = talk[:at] + entries + talk[at + 1:]
                wanted = self.replay(book, sparing, thing)
                seen.add(wanted if isinstance(wanted, bool) else wanted[0])
                if isinstance(wanted, bool):
                    self.assert_same(lets_talk(book, sparing, thing), wanted)
                else:
                    self.assert_refused(wanted[0], wanted[1], lets_talk, book, sparing, thing)
        self.assertEqual(seen, {True, False, "behind", "want", "answer"})


class TestStreams(Checks, unittest.TestCase):

    def test_example(self):
        stream = Stream(BOLD)
        told = (stream.hear(A), stream.hear(FA), stream.hear(FFA), stream.hear(A), stream.changes())
        self.assert_same(told, (True, True, False, False, 2))
        self.assert_same((stream.form(), stream.heard()), (LONG, (A, FA, FFA)))

    def test_at_first(self):
        for book in BOOKS:
            stream = Stream(book)
            self.assert_same((stream.form(), stream.heard(), stream.changes()), (EMPTY, (), 0))
            self.assert_same((stream.hear(tree=G), stream.hear(G), stream.heard()), (True, False, (G,)))
        self.assert_same(stream.changes(), 1)

    def test_results_belong_to_the_caller(self):
        stream = Stream(BOLD)
        stream.hear(A)
        told = (stream.form(), stream.heard(), stream.changes())
        stream.hear(FA)
        self.assert_same(told, (ONE, (A,), 1))

    def test_drawn_trees(self):
        draw = Draw(463)
        changes = 0
        for k in range(100):
            book = BOOKS[k % len(BOOKS)]
            stream = Stream(book)
            heard, changed = [], 0
            for _ in range(10):
                tree = draw.one_of(heard) if heard and draw.below(4) == 0 else draw.one_of(FEW)
                before = stream.form()
                told = stream.hear(tree)
                if tree not in heard:
                    heard.append(tree)
                self.assert_same(stream.form(), grammar_of(book, tuple(heard)))
                self.assert_same(told, stream.form() != before)
                self.assert_same(told, not takes(before, tree))
                changed += told
                self.assert_same((stream.heard(), stream.changes()), (tuple(heard), changed))
            changes += changed
        self.assertTrue(200 < changes < 900, changes)


if __name__ == "__main__":
    unittest.main()
