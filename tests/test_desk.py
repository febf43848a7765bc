"""The desk and its journals: [98], [99] and [100]."""

import unittest

from stoodthere.brings import brings_of
from stoodthere.counts import count_of
from stoodthere.desk import Desk
from stoodthere.dials import boldest_of, doubt_of
from stoodthere.errors import InvalidEvent, NotThere, NothingToUndo, Stands
from stoodthere.events import is_event
from stoodthere.found import grammar_of
from stoodthere.journals import fresh_desk, merged_desks, replayed
from stoodthere.judging import Judged
from stoodthere.leans import lean_of
from stoodthere.lessons import lessons_of
from stoodthere.mending import mend_of
from stoodthere.numbering import tree_at
from stoodthere.quarrels import quarrel_of
from stoodthere.readings import least_reading
from stoodthere.verdictchecker import lets_verdict
from stoodthere.verdicts import verdict_of, verdict_paper
from tests.checks import Checks
from tests.samples import A, B, BOLD, BOOKS, DEEP, DOT, EMPTY, FA, FB, FFA, G, LONG, MIX, SMALL_TREES, WRONG_TREES, Draw

FEW = tuple(SMALL_TREES[:14])
WORDS = ("put", "bar", "take", "free")
# None of these is an event.
NO_EVENTS = (None, True, 0, "", "put", (), [], ["put", A], ("put",), ("put", A, A), ("put", None), ("puts", A), (None, A),
             ("book", ()), ("book", (("depth", True),)), ("put", [("a", 0)]), ("take", (("f", 1),)), (("put",), A), A)


class Books:
    """An own book-keeping of what a desk holds, with the states ahead of each event."""

    def __init__(self, book):
        self.state = (book, (), ())
        self.log = ()
        self.earlier = ()

    def fault(self, event):
        if not is_event(event):
            return "shape"
        word, value = event
        if word in ("put", "bar"):
            return "stands" if value in self.state[1 if word == "put" else 2] else None
        if word in ("take", "free"):
            return "missing" if value not in self.state[1 if word == "take" else 2] else None
        return None

    def do(self, event):
        word, value = event
        book, standing, barred = self.state
        self.earlier += (self.state,)
        self.log += (event,)
        self.state = {
            "put": (book, standing + (value,), barred), "bar": (book, standing, barred + (value,)),
            "take": (book, tuple(tree for tree in standing if tree != value), barred),
            "free": (book, standing, tuple(tree for tree in barred if tree != value)), "book": (value, standing, barred),
        }[word]

    def undo(self, steps):
        if steps:
            self.state = self.earlier[-steps]
            self.earlier, self.log = self.earlier[:-steps], self.log[:-steps]


def drawn_event(draw):
    if draw.below(8) == 0:
        return ("book", draw.one_of(BOOKS))
    return (draw.one_of(WORDS + ("put", "bar")), draw.one_of(FEW))


def made(book, *events):
    desk = Desk(book)
    for event in events:
        desk.do_event(event)
    return desk


class TestDesk(Checks, unittest.TestCase):

    def assert_raised(self, error, fields, deed, *given):
        with self.assertRaises(error) as caught:
            deed(*given)
        self.assertIs(type(caught.exception), error)
        for name, value in fields.items():
            self.assertIs(getattr(caught.exception, name), value)

    def assert_refused_event(self, event, reason, deed, *given):
        with self.assertRaises(InvalidEvent) as caught:
            deed(*given)
        self.assertIs(type(caught.exception), InvalidEvent)
        self.assertIs(caught.exception.event, event)
        self.assert_same(caught.exception.reason, reason)

    def check(self, desk, books):
        self.assert_same((desk.state(), desk.log()), (books.state, books.log))

    def test_example(self):
        desk = Desk(BOLD)
        desk.do_all((("put", A), ("put", FA), ("bar", FB), ("take", A)), True)
        desk.undo(1)
        self.assert_same((desk.state(), len(desk.log())), ((BOLD, (A, FA), (FB,)), 3))
        with self.assertRaises(InvalidEvent) as caught:
            desk.do_all((("take", A), ("take", A)), False)
        self.assert_same((caught.exception.event, caught.exception.reason), (("take", A), "missing"))
        told = (desk.verdict(FFA), desk.verdict(B), desk.boldest(), desk.counted(2), desk.mended(FB))
        self.assert_same(told, ("in", "out", 0, 1, (2, FA)))
        self.assert_same(merged_desks(fresh_desk((BOLD, (FA,), ())), desk).state()[1], (FA, A))

    def test_at_first(self):
        for book in BOOKS:
            desk = Desk(book=book)
            self.assert_same((desk.state(), desk.log()), ((book, (), ()), ()))
            told = (desk.grammar(), desk.lessons(), desk.lean(), desk.quarrel(), desk.boldest(), desk.doubt(0))
            self.assert_same(told, (EMPTY, (), (), None, 0, None))
            told = (desk.brings(A), desk.counted(1), desk.tree_by(0), desk.mended(A), desk.reading(()), desk.verdict(A))
            self.assert_same(told, (None, 0, None, None, None, "open"))
            self.assert_same(lets_verdict(book, (), (), A, desk.paper(A)), "open")

    def test_deeds(self):
        desk = Desk(BOLD)
        told = [desk.put(A), desk.put(tree=FA), desk.bar(FB), desk.bar(tree=A), desk.take(A), desk.free(tree=FB)]
        self.assert_same(told + [desk.change_book(DEEP), desk.change_book(book=DEEP), desk.put(A)], [None] * 9)
        self.assert_same(desk.state(), (DEEP, (FA, A), (A,)))
        wanted = (("put", A), ("put", FA), ("bar", FB), ("bar", A), ("take", A), ("free", FB), ("book", DEEP), ("book", DEEP),
                  ("put", A))
        self.assert_same(desk.log(), wanted)

    def test_refused_deeds(self):
        desk = made(BOLD, ("put", A), ("put", FA), ("bar", FB))
        state, log = desk.state(), desk.log()
        for deed, error, tree in ((desk.put, Stands, A), (desk.put, Stands, FA), (desk.bar, Stands, FB),
                                  (desk.take, NotThere, FB), (desk.take, NotThere, G), (desk.free, NotThere, A)):
            self.assert_raised(error, {"tree": tree}, deed, tree)
            self.assert_same((desk.state(), desk.log()), (state, log))

    def test_undo(self):
        desk = made(BOLD, ("put", A), ("put", FA), ("put", B), ("take", FA), ("bar", G), ("book", DEEP), ("free", G))
        self.assert_same((desk.undo(0), len(desk.log()), desk.state()), (None, 7, (DEEP, (A, B), ())))
        self.assert_same((desk.undo(1), desk.state()), (None, (DEEP, (A, B), (G,))))
        self.assert_same((desk.undo(steps=2), desk.state()), (None, (BOLD, (A, B), ())))
        # The tree that was taken stands at its old place.
        desk.undo(1)
        self.assert_same((desk.state(), desk.log()), ((BOLD, (A, FA, B), ()), (("put", A), ("put", FA), ("put", B))))
        for steps in (4, 5, 10 ** 59):
            self.assert_raised(NothingToUndo, {"steps": steps}, desk.undo, steps)
            self.assert_same(desk.state(), (BOLD, (A, FA, B), ()))
        desk.undo(3)
        self.assert_same((desk.state(), desk.log(), desk.undo(0)), ((BOLD, (), ()), (), None))
        self.assert_raised(NothingToUndo, {"steps": 1}, desk.undo, 1)
        # What was undone may be done anew.
        desk.put(FA)
        self.assert_same((desk.state(), desk.log()), ((BOLD, (FA,), ()), (("put", FA),)))
        desk.undo(1)
        self.assert_same(desk == Desk(BOLD), True)

    def test_do_event(self):
        desk = made(BOLD, ("put", A), ("bar", B))
        state, log = desk.state(), desk.log()
        for event in NO_EVENTS:
            self.assert_refused_event(event, "shape", desk.do_event, event)
        for event, reason in ((("put", A), "stands"), (("bar", B), "stands"), (("take", B), "missing"), (("free", A), "missing")):
            self.assert_refused_event(event, reason, desk.do_event, event)
            self.assert_same((desk.state(), desk.log()), (state, log))
        self.assert_same((desk.do_event(event=("take", A)), desk.do_event(("book", MIX))), (None, None))
        self.assert_same((desk.state(), desk.log()), ((MIX, (), (B,)), log + (("take", A), ("book", MIX))))

    def test_do_all(self):
        for keep in (True, False):
            desk = made(BOLD, ("put", A))
            self.assert_same((desk.do_all((), keep), desk.log()), (None, (("put", A),)))
            self.assert_same(desk.do_all(keep=keep, events=(("put", FA), ("take", A))), None)
            self.assert_same((desk.state(), len(desk.log())), ((BOLD, (FA,), ()), 3))
            bad = ("put", FA)
            self.assert_refused_event(bad, "stands", desk.do_all, (("bar", G), ("book", DEEP), bad, None), keep)
            self.assert_same(desk.state(), (DEEP, (FA,), (G,)) if keep else (BOLD, (FA,), ()))
            self.assert_same(len(desk.log()), 5 if keep else 3)
            for event in NO_EVENTS:
                before = (desk.state(), desk.log())
                self.assert_refused_event(event, "shape", desk.do_all, (event, ("take", G)), keep)
                self.assert_same((desk.state(), desk.log()), before)
        desk = Desk(BOLD)
        for keep in (None, 0, 1, "", (), [], "True"):
            self.assert_not_usable("keep", desk.do_all, (("put", A),), keep)
            self.assert_not_usable("keep", desk.do_all, (None,), keep)
            self.assert_not_usable("keep", desk.do_all, (), keep)
        self.assert_same((desk.state(), desk.log()), ((BOLD, (), ()), ()))

    def test_three_hundred_events(self):
        events = tuple(("put", A) if k % 2 == 0 else ("take", A) for k in range(300))
        desk = Desk(BOLD)
        desk.do_all(events, False)
        self.assert_same((desk.log(), desk.state()), (events, (BOLD, (), ())))
        self.assert_raised(NothingToUndo, {"steps": 301}, desk.undo, 301)
        desk.undo(299)
        self.assert_same((desk.log(), desk.state()), (events[:1], (BOLD, (A,), ())))
        self.assert_same(replayed(BOLD, events).log(), events)
        # A log has three hundred events at most.
        self.assert_not_usable("log", replayed, BOLD, events + (("put", A),))

    def test_equal(self):
        desk = made(BOLD, ("put", A), ("put", FA), ("bar", B))
        same = made(DEEP, ("bar", B), ("put", A), ("book", BOLD), ("put", G), ("put", FA), ("take", G))
        self.assertIs(desk == same, True)
        self.assertIs(desk != same, False)
        others = [made(BOLD, ("put", FA), ("put", A), ("bar", B)), made(DEEP, ("put", A), ("put", FA), ("bar", B)),
                  made(BOLD, ("put", A), ("put", FA)), made(BOLD, ("put", A), ("bar", B)), Desk(BOLD),
                  made(BOLD, ("put", A), ("put", FA), ("bar", B), ("bar", A))]
        judge = Judged(BOLD)
        judge.put(A)
        judge.put(FA)
        judge.bar(B)
        for other in others + [judge, desk.state(), desk.log(), None, True, 0, "", (), [], Desk]:
            self.assertIs(desk == other, False)
            self.assertIs(other == desk, False)

    def test_results_belong_to_the_caller(self):
        desk = made(BOLD, ("put", A), ("bar", B))
        told = (desk.state(), desk.log(), desk.grammar())
        kept = repr(told)
        desk.do_all((("take", A), ("put", FA), ("free", B), ("book", DEEP)), True)
        self.assertEqual(repr(told), kept)
        desk.undo(6)
        self.assertEqual(repr(told), kept)

    def check_answers(self, desk, draw):
        """Each method of [99] is the function that it names, with the found grammar."""
        book, standing, barred = desk.state()
        found = grammar_of(book, standing)
        tree, other = draw.one_of(SMALL_TREES[:40]), draw.one_of(SMALL_TREES[:40])
        self.assert_same(desk.verdict(tree), verdict_of(book, standing, barred, tree))
        self.assert_same(desk.paper(tree), verdict_paper(book, standing, barred, tree))
        self.assert_same(lets_verdict(book, standing, barred, tree, desk.paper(tree)), desk.verdict(tree))
        self.assert_same((desk.grammar(), desk.lessons()), (found, lessons_of(book, found)))
        self.assert_same((desk.lean(), desk.quarrel()), (lean_of(book, standing), quarrel_of(book, standing, barred)))
        self.assert_same(desk.boldest(), boldest_of(standing, barred))
        depth, nodes, number = draw.below(4), draw.below(7), draw.below(5)
        self.assert_same((desk.doubt(depth), desk.brings(other)), (doubt_of(standing, depth), brings_of(book, standing, other)))
        self.assert_same((desk.counted(nodes), desk.tree_by(number)), (count_of(found, nodes), tree_at(found, number)))
        words = tuple(draw.one_of(("a", "b")) for _ in range(draw.below(4)))
        self.assert_same((desk.mended(tree), desk.reading(words)), (mend_of(found, tree), least_reading(found, words)))

    def do_some(self, desk, books, draw):
        """Deeds of all sorts, refused ones among them, on the desk and in the books."""
        event = drawn_event(draw) if draw.below(6) else draw.one_of(NO_EVENTS)
        fault = books.fault(event)
        way = draw.below(4)
        if way == 0:
            steps = draw.below(4)
            if steps > len(books.log):
                self.assert_raised(NothingToUndo, {"steps": steps}, desk.undo, steps)
            else:
                self.assert_same(desk.undo(steps), None)
                books.undo(steps)
        elif way == 1 and fault != "shape":
            word, value = event
            deed = {"put": desk.put, "bar": desk.bar, "take": desk.take, "free": desk.free, "book": desk.change_book}[word]
            if fault is None:
                self.assert_same(deed(value), None)
                books.do(event)
            else:
                self.assert_raised({"stands": Stands, "missing": NotThere}[fault], {"tree": value}, deed, value)
        elif way == 2:
            self.do_many(desk, books, draw)
        elif fault is None:
            self.assert_same(desk.do_event(event), None)
            books.do(event)
        else:
            self.assert_refused_event(event, fault, desk.do_event, event)

    def do_many(self, desk, books, draw):
        events = tuple(drawn_event(draw) if draw.below(12) else draw.one_of(NO_EVENTS) for _ in range(draw.below(4)))
        keep = draw.below(2) == 1
        many = len(books.log)
        for event in events:
            fault = books.fault(event)
            if fault is not None:
                self.assert_refused_event(event, fault, desk.do_all, events, keep)
                if not keep:
                    books.undo(len(books.log) - many)
                return
            books.do(event)
        self.assert_same(desk.do_all(events, keep), None)

    def test_drawn_deeds(self):
        draw = Draw(550)
        for k in range(60):
            book = BOOKS[k % len(BOOKS)]
            desk, books = Desk(book), Books(book)
            for _ in range(16):
                self.do_some(desk, books, draw)
                self.check(desk, books)
            self.check_answers(desk, draw)

    def test_answers(self):
        draw = Draw(551)
        for book in BOOKS:
            self.check_answers(made(book, ("put", A), ("put", FA), ("bar", FB)), draw)
            self.check_answers(made(book, ("put", G), ("put", DOT), ("bar", A), ("bar", FFA)), draw)
        desk = made(BOLD, ("put", A), ("put", FA), ("bar", FB))
        self.assert_same((desk.grammar(), desk.lessons(), desk.quarrel()), (LONG, (A, FA), None))
        self.assert_same((desk.doubt(depth=0), desk.brings(tree=B), desk.counted(nodes=3)), (FFA, FB, 1))
        self.assert_same((desk.tree_by(number=2), desk.mended(tree=B), desk.reading(words=("a",))), (FFA, (2, A), A))
        self.assert_same((desk.verdict(tree=FFA), desk.paper(tree=FFA)[0]), ("in", "in"))
        desk.bar(FFA)
        self.assert_same((desk.boldest(), desk.quarrel(), desk.verdict(B)), (1, ((A, FA), FFA), "odds"))


class TestJournals(Checks, unittest.TestCase):

    def test_replayed(self):
        log = (("put", A), ("bar", B), ("book", DEEP), ("take", A), ("put", FA))
        desk = replayed(BOLD, log)
        self.assert_same((desk.state(), desk.log()), ((DEEP, (FA,), (B,)), log))
        self.assert_same((replayed(log=(), book=MIX).state(), replayed(MIX, ()).log()), ((MIX, (), ()), ()))
        for events, bad, reason in (((("put", A), ("put", A)), ("put", A), "stands"), ((("take", A),), ("take", A), "missing"),
                                    ((("bar", A), ("free", B), ("bar", A)), ("free", B), "missing")):
            with self.assertRaises(InvalidEvent) as caught:
                replayed(BOLD, events)
            self.assert_same((caught.exception.event, caught.exception.reason), (bad, reason))

    def test_not_logs(self):
        for thing in (None, True, 0, "", "put a", [], [("put", A)], ("put", A), A) + tuple((event,) for event in NO_EVENTS):
            self.assert_not_usable("log", replayed, BOLD, thing)
        for event in NO_EVENTS:
            # Also behind an event that would be refused.
            self.assert_not_usable("log", replayed, BOLD, (("take", A), event))
        for tree in WRONG_TREES:
            self.assert_not_usable("log", replayed, BOLD, (("put", tree),))

    def test_fresh_desk(self):
        desk = fresh_desk((MIX, (FA, A), (A, G)))
        self.assert_same(desk.state(), (MIX, (FA, A), (A, G)))
        self.assert_same(desk.log(), (("put", FA), ("put", A), ("bar", A), ("bar", G)))
        desk.undo(3)
        self.assert_same(desk.state(), (MIX, (FA,), ()))
        self.assert_same((fresh_desk(state=(BOLD, (), ())) == Desk(BOLD), fresh_desk((DEEP, (), ())).log()), (True, ()))

    def test_merged_desks(self):
        one = made(DEEP, ("put", B), ("put", FA), ("put", A), ("take", B), ("bar", G), ("bar", B), ("book", BOLD))
        two = made(BOLD, ("put", A), ("put", FB), ("put", FA), ("put", G), ("bar", FFA), ("bar", G))
        states = (one.state(), one.log(), two.state(), two.log())
        desk = merged_desks(one, two)
        self.assert_same(desk.state(), (BOLD, (FA, A, FB, G), (G, B, FFA)))
        self.assert_same(desk.log(), fresh_desk(desk.state()).log())
        self.assert_same(merged_desks(two=one, one=two).state(), (BOLD, (A, FB, FA, G), (FFA, G, B)))
        desk.do_all((("take", A), ("bar", A), ("book", MIX)), True)
        self.assert_same((one.state(), one.log(), two.state(), two.log()), states)
        self.assert_same((merged_desks(one, one) == one, merged_desks(one, Desk(BOLD)) == one), (True, True))
        self.assert_same(merged_desks(Desk(BOLD), two) == two, True)

    def test_wrong_two(self):
        one = made(BOLD, ("put", A))
        judge = Judged(BOLD)
        for thing in (None, True, 0, "", (), [], A, one.state(), one.log(), judge, Desk, Desk(DEEP), made(BOLD, ("book", DEEP)),
                      Desk((("depth", 0), ("depth", 0)))):
            self.assert_not_usable("two", merged_desks, one, thing)
        self.assert_same(one.state(), (BOLD, (A,), ()))


if __name__ == "__main__":
    unittest.main()
