"""The examples of the document for the points that have landed, as they stand there."""

import unittest

EXAMPLES = {
    "Examples": '''
    >>> BOLD, DEEP = (("depth", 0),), (("depth", 1),)
    >>> A, B = (("a", 0),), (("b", 0),)
    >>> FA, FB = (("f", 1), ("a", 0)), (("f", 1), ("b", 0))
    >>> FFA = (("f", 1), ("f", 1), ("a", 0))
    >>> LONG = (1, (0,), ((0, "a", ()), (0, "f", (0,))))
    ''',
    "treekinds": '''
    >>> is_word("f-1"), is_word("-f"), is_word("."), is_word("")
    (True, False, True, False)
    >>> is_symbol((".", 1)), is_symbol(["a", 0]), is_symbol(("a", True))
    (False, False, False)
    >>> is_tree(FA), is_tree((("f", 1),)), is_pattern((("f", 1), ("?", 0)))
    (True, False, True)
    >>> is_trees(()), is_trees((A, B)), is_trees((A, A))
    (True, True, False)
    ''',
    "treechecker": '''
    >>> lets_tree(FA)
    2
    >>> lets_tree((("a", 0), None))
    raises InvalidPaper('behind', 1)
    >>> lets_tree((("f", 1),))
    raises InvalidPaper('end', 1)
    ''',
    "pieces": '''
    >>> G = (("g", 2), ("f", 1), ("a", 0), ("b", 0))
    >>> ends_of(G)
    (4, 3, 3, 4)
    >>> piece_at(G, 1), with_piece(FA, 1, FB)
    ((('f', 1), ('a', 0)), (('f', 1), ('f', 1), ('b', 0)))
    >>> piece_at(FA, 2)
    raises NotUsable('node', -1)
    >>> parts_of(G), parts_of(A)
    (((('f', 1), ('a', 0)), (('b', 0),)), ())
    >>> tree_of("g", (FA, B)) == G, tree_of("a", ())
    (True, (('a', 0),))
    ''',
    "piecelists": '''
    >>> pieces_of((FFA, FA))
    ((('a', 0),), (('f', 1), ('a', 0)), (('f', 1), ('f', 1), ('a', 0)))
    >>> symbols_of((G, FA))
    (('a', 0), ('b', 0), ('f', 1), ('g', 2))
    >>> levels_of(A), levels_of(G)
    (1, 3)
    ''',
    "places": '''
    >>> place_of(G, 1), place_of(A, 0)
    (((('g', 2),), (('b', 0),)), ((), ()))
    >>> put_at(((("g", 2),), (("b", 0),)), A)
    (('g', 2), ('a', 0), ('b', 0))
    ''',
    "orders": '''
    >>> is_ahead(B, FA), is_ahead(FB, FA), is_ahead(A, A)
    (True, False, False)
    >>> least_of((FA, B)), least_of(())
    ((('b', 0),), None)
    >>> in_order((FA, B, FA, A))
    ((('a', 0),), (('b', 0),), (('f', 1), ('a', 0)))
    ''',
    "prices": '''
    >>> leaves_of(G), leaves_of(((".", 0),))
    (('a', 'b'), ())
    >>> shared_of(G, (("g", 2), ("b", 0), ("b", 0))), price_of(G, FA), price_of(A, A)
    (2, 6, 0)
    >>> P = (("g", 2), ("?", 0), ("?", 0))
    >>> holes_of(P), holes_of(A)
    ((1, 2), ())
    >>> fits(P, G), fits((("?", 0),), A), fits((("f", 1), ("?", 0)), B)
    (True, True, False)
    ''',
    "treetexts": '''
    >>> shown(G), shown((("f", 2), (".", 0), ("?", 0)))
    ('g(f(a),b)', 'f(.,?)')
    ''',
    "treereadings": '''
    >>> read_tree("f(a)"), read_pattern("?")
    ((('f', 1), ('a', 0)), (('?', 0),))
    >>> read_tree("f(a,)")
    raises InvalidText(0, 4)
    >>> read_tree("f(a")
    raises InvalidText(0, 3)
    ''',
    "bookkinds": '''
    >>> from stoodthere.bookkinds import is_simple, is_book
    >>> is_simple(("groups", (("a", 1), ("b", 1)), 0)), is_simple(("groups", (("b", 1), ("a", 1)), 0))
    (True, False)
    >>> is_book(()), is_book((("depth", 60),)), is_book((("depth", True),))
    (False, True, False)
    ''',
    "bookchecker": '''
    >>> from stoodthere.bookchecker import lets_book
    >>> lets_book((("depth", 0), ("groups", (("a", 1), ("a", 2)), 100)))
    raises InvalidPaper('sequence', 1)
    ''',
    "books": '''
    >>> from stoodthere.books import depth_book, paired
    >>> paired(BOLD, depth_book(0)), paired(DEEP, BOLD)
    ((('depth', 0),), (('depth', 1), ('depth', 0)))
    ''',
    "booktexts": '''
    >>> from stoodthere.booktexts import book_text
    >>> book_text((("depth", 1), ("groups", (("a", 1), ("b", 2)), 0), ("table", (("a", (), 1), ("f", (0, 1), 2)), 0)))
    'depth 1 + groups a=1 b=2 else 0 + table a()=1 f(0,1)=2 else 0'
    ''',
    "bookreadings": '''
    >>> from stoodthere.bookreadings import read_book
    >>> read_book("groups else=7 else 0 + depth 2")
    (('groups', (('else', 7),), 0), ('depth', 2))
    >>> read_book("groups b=1 a=1 else 0")
    raises InvalidText(0, 2)
    ''',
    "cuts": '''
    >>> from stoodthere.cuts import cut
    >>> cut(FFA, 0), cut(FFA, 2)
    ((('_', 0),), (('f', 1), ('f', 1), ('_', 0)))
    ''',
    "kinds": '''
    >>> from stoodthere.kinds import kind_from, kind_of, kinds_of
    >>> mix = (("depth", 1), ("groups", (("a", 5),), 0), ("table", (("a", (), 1), ("f", (1,), 2)), 9))
    >>> kinds_of(mix, FA)
    (((('f', 1), ('_', 0)), 0, 2), ((('a', 0),), 5, 1))
    >>> kind_from(mix, "f", (kind_of(mix, FA),))
    ((('f', 1), ('_', 0)), 0, 9)
    ''',
    "kindlists": '''
    >>> from stoodthere.kindlists import kinds_over, pieces_by_kind
    >>> kinds_over(DEEP, (("a", 0), ("f", 1)))
    ((((('a', 0),),), (('a', 0),)), (((('f', 1), ('_', 0)),), (('f', 1), ('a', 0))))
    >>> pieces_by_kind(DEEP, (FB, FA))
    (((('a', 0),),), ((('b', 0),),), ((('f', 1), ('a', 0)), (('f', 1), ('b', 0))))
    ''',
    "finers": '''
    >>> from stoodthere.finers import finer_pair
    >>> finer_pair(BOLD, DEEP, (("a", 0), ("f", 1))), finer_pair(DEEP, BOLD, (("a", 0), ("f", 1)))
    (((('a', 0),), (('f', 1), ('a', 0))), None)
    ''',
    "rounds": '''
    >>> fourths_of(BOLD, (A, FA))
    ((('f', 1), ('f', 1), ('a', 0)),)
    ''',
    "chainchecker": '''
    >>> lets_chain(BOLD, (A, FA), (("given", FA), ("given", A), ("put", 0, 1, 1, 0, 0)))
    ((('f', 1), ('a', 0)), (('a', 0),), (('f', 1), ('f', 1), ('a', 0)))
    ''',
    "ledtrees": '''
    >>> both = (("g", 2), ("f", 1), ("a", 0), ("f", 1), ("b", 0))
    >>> classes_making(BOLD, (A, B, both), (("root", A, B, 0),), FA)
    (1, 2)
    ''',
    "fairness": '''
    >>> breach_of(BOLD, (2, (0, 1), ((0, "a", ()), (1, "b", ()))))
    ('single', 1)
    ''',
    "verdictchecker": '''
    >>> lets_verdict(BOLD, (A, FA), (B,), FFA, ("in", LONG, (("root", A, FA, 0),)))
    'in'
    ''',
    "plainclasses": '''
    >>> from stoodthere.plainclasses import plain_classes
    >>> plain_classes(BOLD, (FA, FB))
    (((('a', 0),), (('b', 0),)), ((('f', 1), ('a', 0)), (('f', 1), ('b', 0))))
    ''',
    "joinlists": '''
    >>> from stoodthere.joinlists import joins_of
    >>> len(joins_of(BOLD, (FA, FB)))
    2
    ''',
    "closures": '''
    >>> from stoodthere.closures import Closure
    >>> box = Closure(BOLD)
    >>> box.put(FA)
    >>> box.put(FB)
    >>> box.numbers(), box.is_same(A, B), box.takes_in(A), box.takes_in(FFA)
    ((4, 2, 2), True, False, False)
    >>> box.put(A)
    >>> box.numbers(), box.is_same(B, FA), box.takes_in(FFA)
    ((4, 1, 3), True, True)
    ''',
    "ways": '''
    >>> from stoodthere.ways import way_of, needed_of
    >>> three = (("root", A, FA, 0), ("root", A, FB, 0), ("down", FA, FB, 0))
    >>> way_of(BOLD, (A, FA, FB), three, FA, B), way_of(BOLD, (A, FA, FB), (), FA, B)
    ((0, 2), None)
    >>> needed_of(BOLD, (A, FA, FB), three, 2)
    (0, 1, 2)
    ''',
    "calledjoins": '''
    >>> from stoodthere.calledjoins import classes_with, called_tree
    >>> classes_with(BOLD, (FA,), A, FA)
    (((('a', 0),), (('f', 1), ('a', 0))),)
    >>> called_tree(BOLD, (FA,), FA, 1, FA)
    (('f', 1), ('f', 1), ('a', 0))
    >>> classes_with(DEEP, (FA,), A, FA)
    raises NotUsable("other", -1)
    ''',
    "joinpapers": '''
    >>> from stoodthere.joinpapers import join_paper, short_joins
    >>> len(join_paper(BOLD, (A, FA), FFA)), join_paper(DEEP, (A, FA), FFA)
    (1, None)
    >>> short_joins(BOLD, (A, FA, FB), three, FFA)
    (('root', (('a', 0),), (('f', 1), ('a', 0)), 0),)
    ''',
    "chainpapers": '''
    >>> from stoodthere.chainpapers import chain_paper, chain_bound, joins_count
    >>> chain_paper(BOLD, (A,), A)
    (('given', (('a', 0),)),)
    >>> joins_count(BOLD, (A, FA)), chain_bound(BOLD, (A, FA), 3)
    (1, 27)
    ''',
    "grammartexts": '''
    >>> grammar_text(LONG)
    'names 1\\nstart 0\\n0 = a\\n0 = f 0'
    ''',
    "grammarreadings": '''
    >>> read_grammar("names 2\\nstart 1\\n1 = f 0 0\\n0 = a")
    (2, (1,), ((0, 'a', ()), (1, 'f', (0, 0))))
    >>> read_grammar("names 1\\nstart 0\\n0 = f 1")
    raises InvalidText(2, 3)
    >>> read_grammar("names 1\\nstart 0\\n0 =")
    raises InvalidText(2, 2)
    ''',
    "trims": '''
    >>> trimmed((3, (2,), ((0, "b", ()), (1, "f", (2,)), (2, "a", ()))))
    (1, (0,), ((0, 'a', ()),))
    >>> plain_of((2, (0,), ((0, "f", (1,)), (1, "a", ()))))
    (2, (1,), ((0, 'a', ()), (1, 'f', (0,))))
    ''',
    "runs": '''
    >>> name_of(LONG, FFA), name_of(LONG, FB), unmade_in(LONG, FB)
    (0, None, (0, 1))
    ''',
    "found": '''
    >>> grammar_of(BOLD, (A, FA)) == LONG
    True
    >>> grammar_of(BOLD, (FA, FB))
    (2, (1,), ((0, 'a', ()), (0, 'b', ()), (1, 'f', (0,))))
    ''',
    "maps": '''
    >>> ONE = (1, (0,), ((0, "a", ()),))
    >>> within_map(BOLD, ONE, LONG), within_map(BOLD, LONG, ONE)
    ((0,), None)
    ''',
    "partings": '''
    >>> parting_of(LONG, ONE), lies_within(ONE, LONG)
    ((('f', 1), ('a', 0)), True)
    ''',
    "rings": '''
    >>> pumped(FFA, 0, 1, 0), pumped(FA, 0, 1, 2) == FFA
    ((('f', 1), ('a', 0)), True)
    ''',
    "ringchecker": '''
    >>> lets_ring(LONG, (FFA, 1, 2))
    0
    ''',
    "splits": '''
    >>> split_of(DEEP, LONG)[0]
    (2, (0, 1), ((0, 'a', ()), (1, 'f', (0,)), (1, 'f', (1,))))
    >>> split_of(DEEP, LONG)[1]
    ((0, ((('a', 0),),)), (0, ((('f', 1), ('_', 0)),)))
    ''',
    "homes": '''
    >>> homes_of(BOLD, (2, (1,), ((0, "a", ()), (1, "f", (0,)))))
    (((('f', 1),), ()), ((), ()))
    ''',
    "lessons": '''
    >>> lessons_of(BOLD, LONG) == (A, FA), lessons_of(DEEP, LONG) == (A, FA, FFA)
    (True, True)
    >>> rule_lessons(BOLD, (2, (1,), ((0, "a", ()), (0, "b", ()), (1, "f", (0,))))) == (FA, FB, FA)
    True
    ''',
    "verdicts": '''
    >>> verdict_of(BOLD, (A, FA), (FB,), FFA)
    'in'
    >>> verdict_of(BOLD, (A, FA), (FB,), B)
    'out'
    >>> verdict_of(DEEP, (A, FA), (FB,), B)
    'open'
    >>> verdict_of(BOLD, (A, FA), (FFA,), B)
    'odds'
    >>> odds_of(BOLD, (A, FA), (FB, FFA))
    (('f', 1), ('f', 1), ('a', 0))
    >>> lets_verdict(BOLD, (A, FA), (FB,), B, verdict_paper(BOLD, (A, FA), (FB,), B))
    'out'
    >>> verdict_paper(BOLD, (A, FA), (FFA,), B)[:2]
    ('odds', (('f', 1), ('f', 1), ('a', 0)))
    ''',
    "judging": '''
    >>> judge = Judged(BOLD)
    >>> judge.put(A)
    >>> judge.put(FA)
    >>> judge.bar(FB)
    >>> [judge.verdict(FFA), judge.verdict(B), judge.odds(), judge.grammar()]
    ['in', 'out', None, (1, (0,), ((0, 'a', ()), (0, 'f', (0,))))]
    ''',
    "quarrels": '''
    >>> quarrel_of(BOLD, (A, FA, FB), (FFA,))
    (((('a', 0),), (('f', 1), ('a', 0))), (('f', 1), ('f', 1), ('a', 0)))
    ''',
    "leans": '''
    >>> lean_of(BOLD, (FFA, FA, A))
    ((('f', 1), ('f', 1), ('a', 0)), (('f', 1), ('a', 0)))
    ''',
    "dials": '''
    >>> boldest_of((A, FA), (FFA,))
    1
    >>> boldest_of((), (A,))
    0
    >>> boldest_of((A, FA), (B, FA)) is None
    True
    >>> doubt_of((A, FA), 0)
    (('f', 1), ('f', 1), ('a', 0))
    >>> steps_of((A,))
    ((1, (0,), ((0, 'a', ()),)), (1, (0,), ((0, 'a', ()),)))
    >>> steps_of(())
    ((0, (), ()),)
    ''',
    "brings": '''
    >>> brings_of(BOLD, (A, FA), B)
    (('f', 1), ('b', 0))
    >>> brings_of(BOLD, (A,), FA)
    (('f', 1), ('f', 1), ('a', 0))
    >>> brings_of(DEEP, (A,), FA) is None
    True
    ''',
    "meets": '''
    >>> from stoodthere.meets import met
    >>> EVEN = (2, (0,), ((0, "a", ()), (0, "f", (1,)), (1, "f", (0,))))
    >>> ODD = (2, (1,), ((0, "a", ()), (0, "f", (1,)), (1, "f", (0,))))
    >>> met(LONG, EVEN)
    (2, (0,), ((0, 'a', ()), (0, 'f', (1,)), (1, 'f', (0,))))
    >>> met(EVEN, ODD)
    (0, (), ())
    >>> met(LONG, (2, (0,), ((0, "a", ()), (1, "a", ()))))
    raises NotUsable('other', -1)
    ''',
    "closings": '''
    >>> from stoodthere.closings import closing
    >>> TWO = (2, (0, 1), ((0, "a", ()), (1, "f", (0,))))
    >>> closing(BOLD, TWO)
    (1, (0,), ((0, 'a', ()), (0, 'f', (0,))))
    >>> closing(DEEP, TWO)
    (2, (0, 1), ((0, 'a', ()), (1, 'f', (0,))))
    ''',
    "unions": '''
    >>> from stoodthere.unions import united
    >>> united(BOLD, EVEN, ODD) == LONG
    True
    >>> united(DEEP, (1, (0,), ((0, "b", ()),)), TWO)
    (3, (0, 1, 2), ((0, 'a', ()), (1, 'b', ()), (2, 'f', (0,))))
    ''',
    "setforms": '''
    >>> from stoodthere.setforms import by_sets
    >>> by_sets((2, (0,), ((0, "a", ()), (0, "b", ()), (1, "b", ()))))
    (2, (0, 1), ((0, 'a', ()), (1, 'b', ())))
    ''',
    "outsides": '''
    >>> from stoodthere.outsides import outside_of, is_same_lot
    >>> outside_of(LONG, EVEN)
    (('f', 1), ('a', 0))
    >>> outside_of(EVEN, LONG) is None
    True
    >>> is_same_lot(LONG, (2, (0, 1), EVEN[2]))
    True
    >>> is_same_lot(EVEN, LONG)
    False
    ''',
    "canons": '''
    >>> from stoodthere.canons import canon_of
    >>> canon_of(BOLD, (2, (0, 1), EVEN[2]))
    (1, (0,), ((0, 'a', ()), (0, 'f', (0,))))
    >>> canon_of(DEEP, LONG)
    (2, (0, 1), ((0, 'a', ()), (1, 'f', (0,)), (1, 'f', (1,))))
    ''',
    "closedtests": '''
    >>> from stoodthere.closedtests import is_closed, three_and_one, chain_out
    >>> is_closed(BOLD, TWO), is_closed(DEEP, TWO)
    (False, True)
    >>> three_and_one(BOLD, TWO) == (A, FA, 0, FA, 1, FFA)
    True
    >>> chain_out(DEEP, TWO) is None
    True
    >>> chain, line = chain_out(BOLD, TWO)
    >>> chain[line][0]
    'put'
    ''',
    "closeddepths": '''
    >>> from stoodthere.closeddepths import closed_depth
    >>> closed_depth(TWO, 1)
    1
    >>> closed_depth(TWO, 0) is None
    True
    ''',
    "teaching": '''
    >>> is_taught(BOLD, (FFA, FA), LONG), is_taught(BOLD, (A,), LONG)
    (True, False)
    >>> unused_rules(LONG, (A,)), unused_rules(LONG, ())
    ((1,), (0, 1))
    >>> question_bound(BOLD, LONG), question_bound(BOLD, (2, (1,), ((0, "a", ()), (1, "f", (0,)))))
    (1, 1)
    ''',
    "learners": '''
    >>> learner = Learner(BOLD, False)
    >>> learner.told(FA)
    >>> learner.wants()
    ('ask', (('f', 1), ('f', 1), ('a', 0)))
    >>> learner.told(False)
    >>> learner.wants()
    ('propose', (2, (1,), ((0, 'a', ()), (1, 'f', (0,)))))
    >>> learner.told(FB)
    >>> learner.wants()
    ('ask', (('f', 1), ('b', 0)))
    >>> learner.told(False)
    raises AtOdds(False)
    >>> learner.numbers(), learner.yeses(), learner.noes() == (FFA,)
    ((2, 1, 2, 2, 1), (), True)
    ''',
    "teachers": '''
    >>> teacher = Teacher(BOLD, LONG, (B, FFA))
    >>> teacher.reply(("propose", (0, (), ()))) == FFA, teacher.reply(("ask", FB))
    (True, False)
    >>> teacher.reply(("propose", LONG)) is None
    True
    ''',
    "led": '''
    >>> pupil = Learner(BOLD, False)
    >>> led_on(pupil, Teacher(BOLD, LONG, ())) == LONG, pupil.told_trees() == (A, FA)
    (True, True)
    >>> lets_talk(BOLD, False, ()), lets_talk(BOLD, False, pupil.talk())
    (False, True)
    ''',
    "streams": '''
    >>> stream = Stream(BOLD)
    >>> stream.hear(A), stream.hear(FA), stream.hear(FFA), stream.hear(A), stream.changes()
    (True, True, False, False, 2)
    ''',
    "counts": '''
    >>> TWO = (1, (0,), ((0, "a", ()), (0, "b", ()), (0, "g", (0, 0))))
    >>> count_of(TWO, 3), counts_to(TWO, 5)
    (4, (0, 2, 0, 4, 0, 16))
    >>> lot_size(LONG), lot_size((0, (), ()))
    (None, 0)
    ''',
    "numbering": '''
    >>> GAB = (("g", 2), ("a", 0), ("b", 0))
    >>> number_of(TWO, GAB), number_of(TWO, FA), tree_at(TWO, 1)
    (3, None, (('b', 0),))
    >>> tree_at((1, (0,), ((0, "a", ()),)), 1)
    None
    >>> ahead_count(TWO, FA), ahead_count(TWO, GAB)
    (2, 3)
    >>> next_tree(TWO, FA), next_tree(TWO, B) == next_tree(TWO, FB)
    ((('g', 2), ('a', 0), ('a', 0)), True)
    ''',
    "holes": '''
    >>> P = (("g", 2), ("?", 0), ("b", 0))
    >>> least_fill(TWO, P) == GAB, fill_count(TWO, P, 5), hole_names(TWO, P)
    (True, 4, (0,))
    >>> least_fill(LONG, P), hole_names(LONG, P)
    (None, ())
    >>> hole_names(TWO, A)
    raises NotUsable('pattern', -1)
    ''',
    "mending": '''
    >>> mend_of(TWO, (("g", 2), ("f", 1), ("a", 0), ("b", 0))) == (3, GAB)
    True
    >>> mend_of(LONG, FFA) == (0, FFA), mend_of((0, (), ()), A)
    (True, None)
    ''',
    "floorchecker": '''
    >>> lets_floors(LONG, B, (((1, 1),), (((2, 1),),)))
    (2, 1)
    >>> lets_floors(LONG, B, (((2, 2),), (((2, 1),),)))
    raises InvalidPaper('rule', 0)
    >>> lets_floors(LONG, B, (((1, 1),), (((2, 2),),)))
    raises InvalidPaper('floor', 0)
    ''',
    "readings": '''
    >>> least_reading(TWO, ("a", "b")) == GAB, least_reading(TWO, ())
    (True, None)
    >>> least_reading((1, (0,), ((0, ".", ()), (0, "f", (0,)))), ())
    (('.', 0),)
    ''',
    "readcounts": '''
    >>> reading_count(TWO, ("a", "b", "a"), 5), reading_total(TWO, ("a", "b", "a"))
    (2, 2)
    >>> reading_total(LONG, ("a",)), reading_total(LONG, ("b",))
    (None, 0)
    ''',
    "papertexts": '''
    >>> chain_text((("given", A), ("given", FA), ("put", 1, 1, 0, 0, 1)))
    'given a\\ngiven f(a)\\nput 1 1 0 0 1'
    >>> joins_text((("down", FA, FB, 0),))
    'down 0 f(a) f(b)'
    ''',
    "paperreadings": '''
    >>> read_joins("up a b"), read_chain("")
    ((('up', (('a', 0),), (('b', 0),), 0),), ())
    >>> read_chain("given a\\nput 0 0")
    raises InvalidText(1, 3)
    ''',
    "events": '''
    >>> is_event(("put", A)), is_event(["put", A]), is_event(("book", ()))
    (True, False, False)
    ''',
    "eventtexts": '''
    >>> log_text((("put", FA), ("book", DEEP)))
    'put f(a)\\nbook depth 1'
    >>> read_event("book depth x")
    raises InvalidText(0, 2)
    ''',
    "desk": '''
    >>> desk = Desk(BOLD)
    >>> desk.do_all((("put", A), ("put", FA), ("bar", FB), ("take", A)), True)
    >>> desk.undo(1)
    >>> desk.state() == (BOLD, (A, FA), (FB,)), len(desk.log())
    (True, 3)
    >>> desk.do_all((("take", A), ("take", A)), False)
    raises InvalidEvent(('take', (('a', 0),)), 'missing')
    >>> desk.verdict(FFA), desk.verdict(B), desk.boldest(), desk.counted(2), desk.mended(FB) == (2, FA)
    ('in', 'out', 0, 1, True)
    ''',
    "journals": '''
    >>> merged_desks(fresh_desk((BOLD, (FA,), ())), desk).state()[1] == (FA, A)
    True
    ''',
}
IMPORTS = '''
from stoodthere.brings import brings_of
from stoodthere.chainchecker import lets_chain
from stoodthere.counts import count_of, counts_to, lot_size
from stoodthere.desk import Desk
from stoodthere.dials import boldest_of, doubt_of, steps_of
from stoodthere.events import is_event
from stoodthere.eventtexts import log_text, read_event
from stoodthere.fairness import breach_of
from stoodthere.floorchecker import lets_floors
from stoodthere.found import grammar_of
from stoodthere.grammarreadings import read_grammar
from stoodthere.grammartexts import grammar_text
from stoodthere.holes import fill_count, hole_names, least_fill
from stoodthere.homes import homes_of
from stoodthere.journals import fresh_desk, merged_desks
from stoodthere.judging import Judged
from stoodthere.leans import lean_of
from stoodthere.learners import Learner
from stoodthere.led import led_on
from stoodthere.ledtrees import classes_making
from stoodthere.lessons import lessons_of, rule_lessons
from stoodthere.maps import within_map
from stoodthere.mending import mend_of
from stoodthere.numbering import ahead_count, next_tree, number_of, tree_at
from stoodthere.orders import in_order, is_ahead, least_of
from stoodthere.paperreadings import read_chain, read_joins
from stoodthere.papertexts import chain_text, joins_text
from stoodthere.partings import lies_within, parting_of
from stoodthere.piecelists import levels_of, pieces_of, symbols_of
from stoodthere.pieces import ends_of, parts_of, piece_at, tree_of, with_piece
from stoodthere.places import place_of, put_at
from stoodthere.prices import fits, holes_of, leaves_of, price_of, shared_of
from stoodthere.quarrels import quarrel_of
from stoodthere.readcounts import reading_count, reading_total
from stoodthere.readings import least_reading
from stoodthere.ringchecker import lets_ring
from stoodthere.rings import pumped, ring_of
from stoodthere.rounds import fourths_of
from stoodthere.runs import name_of, unmade_in
from stoodthere.splits import split_of
from stoodthere.streams import Stream
from stoodthere.talkchecker import lets_talk
from stoodthere.teachers import Teacher
from stoodthere.teaching import is_taught, question_bound, unused_rules
from stoodthere.treechecker import lets_tree
from stoodthere.treekinds import is_pattern, is_symbol, is_tree, is_trees, is_word
from stoodthere.treereadings import read_pattern, read_tree
from stoodthere.treetexts import shown
from stoodthere.trims import plain_of, trimmed
from stoodthere.verdictchecker import lets_verdict
from stoodthere.verdicts import odds_of, verdict_of, verdict_paper
'''


def told_by(line, names):
    """What the document writes below a line: the value, or the error that is raised; "" for a statement or None."""
    try:
        code = compile(line, "example", "eval")
    except SyntaxError:
        exec(line, names)
        return ""
    try:
        value = eval(code, names)
        return "" if value is None else repr(value)
    except ValueError as error:
        fields = ", ".join(repr(value) for value in vars(error).values())
        return f"raises {type(error).__name__}({fields})"


class TestExamples(unittest.TestCase):

    def test_examples(self):
        names = {}
        exec(IMPORTS, names)
        for point, text in EXAMPLES.items():
            lines = [line.strip() for line in text.strip().split("\n")]
            for line, wanted in zip(lines, lines[1:] + [">>>"]):
                if line.startswith(">>> "):
                    wanted = "" if wanted.startswith(">>>") or wanted == "None" else wanted
                    if wanted.startswith("raises "):
                        wanted = wanted.replace('"', "'")
                    self.assertEqual(told_by(line[4:], names), wanted, (point, line))


if __name__ == "__main__":
    unittest.main()
