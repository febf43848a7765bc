"""The interface: where each function stands, its parameters, and what holds of all of them by [2] and [12]."""

import copy
import importlib
import inspect
import itertools
import os
import unittest

from stoodthere.closures import Closure
from stoodthere.desk import Desk
from stoodthere.judging import Judged
from stoodthere.learners import Learner
from stoodthere.streams import Stream
from stoodthere.teachers import Teacher
from tests.checks import Checks
from tests.samples import A, B, BOLD, DEEP, EMPTY, EVEN, FA, FB, FFA, G, LONG, MIX, ONE

TWO = (2, (0, 1), ((0, "a", ()), (1, "f", (0,))))
AF = (("a", 0), ("f", 1))
HOLED = (("f", 1), ("?", 0))
JOINS = (("root", FA, FB, 0),)
CHAIN = (("given", FA), ("given", FB), ("put", 0, 1, 0, 1, 1))

# For each file its functions: the parameters, good arguments for them, and those that are refused if wrong.
INTERFACE = {
    "treekinds": {
        "is_word": (("thing",), ("a",), ""), "is_symbol": (("thing",), (("a", 0),), ""),
        "is_tree": (("thing",), (A,), ""), "is_pattern": (("thing",), (A,), ""), "is_trees": (("thing",), ((A,),), ""),
    },
    "treechecker": {"lets_tree": (("thing",), (FA,), "")},
    "pieces": {
        "ends_of": (("tree",), (G,), ""), "piece_at": (("tree", "node"), (G, 1), "node"),
        "with_piece": (("tree", "node", "piece"), (G, 1, B), "node piece"), "parts_of": (("tree",), (G,), ""),
        "tree_of": (("word", "parts"), ("f", (A, B)), "parts"),
    },
    "piecelists": {
        "pieces_of": (("trees",), ((G, FFA),), ""), "symbols_of": (("trees",), ((G, FFA),), ""),
        "levels_of": (("tree",), (G,), ""),
    },
    "places": {
        "place_of": (("tree", "node"), (G, 2), "node"),
        "put_at": (("place", "piece"), (((("f", 1),), ()), G), "piece"),
    },
    "orders": {
        "is_ahead": (("tree", "other"), (A, B), "other"), "least_of": (("trees",), ((B, A, B),), ""),
        "in_order": (("trees",), ((B, A, B),), ""),
    },
    "prices": {
        "leaves_of": (("tree",), (G,), ""), "shared_of": (("tree", "other"), (G, FA), "other"),
        "price_of": (("tree", "other"), (G, FA), "other"), "holes_of": (("pattern",), ((("?", 0),),), ""),
        "fits": (("pattern", "tree"), ((("?", 0),), G), "tree"),
    },
    "treetexts": {"shown": (("tree",), (G,), "")},
    "treereadings": {
        "read_tree": (("text",), ("f(a)",), "text"), "read_pattern": (("text",), ("f(?)",), "text"),
    },
    "bookkinds": {"is_simple": (("thing",), (MIX[2],), ""), "is_book": (("thing",), (MIX,), "")},
    "bookchecker": {"lets_book": (("thing",), (MIX,), "")},
    "books": {"depth_book": (("depth",), (3,), ""), "paired": (("book", "other"), (MIX, DEEP), "")},
    "booktexts": {"book_text": (("book",), (MIX,), "")},
    "bookreadings": {"read_book": (("text",), ("depth 1",), "text")},
    "cuts": {"cut": (("tree", "depth"), (G, 1), "depth")},
    "kinds": {
        "kind_from": (("book", "word", "kinds"), (DEEP, "f", ((A,),)), "word"),
        "kind_of": (("book", "tree"), (MIX, G), "tree"), "kinds_of": (("book", "tree"), (MIX, G), "tree"),
    },
    "kindlists": {
        "kinds_over": (("book", "symbols"), (MIX, AF), "symbols"),
        "pieces_by_kind": (("book", "trees"), (MIX, (G, FFA)), "trees"),
    },
    "finers": {"finer_pair": (("book", "other", "symbols"), (BOLD, DEEP, AF), "symbols")},
    "exchanges": {
        "exchanged": (("book", "one", "two", "node", "third", "place"), (BOLD, FA, FB, 1, FA, 1),
                      "one two node third place"),
    },
    "rounds": {
        "fourths_of": (("book", "trees"), (BOLD, (A, FA)), "trees"),
        "one_round": (("book", "trees", "most"), (BOLD, (A, FA), 9), "trees most"),
        "grown": (("book", "trees", "most", "rounds"), (BOLD, (A, FA), 9, 2), "trees most rounds"),
        "open_exchange": (("book", "trees"), (BOLD, (A, FA)), "trees"),
    },
    "chainchecker": {"lets_chain": (("book", "given", "thing"), (BOLD, (FA, FB), CHAIN), "given")},
    "joinchecker": {"lets_joins": (("book", "given", "thing"), (BOLD, (FA, FB), JOINS), "given")},
    "ledtrees": {
        "is_led": (("book", "given", "joins", "tree"), (BOLD, (FA, FB), JOINS, FA), "given joins tree"),
        "classes_making": (("book", "given", "joins", "tree"), (BOLD, (FA, FB), JOINS, FA), "given joins tree"),
    },
    "grammarkinds": {"is_grammar": (("thing",), (LONG,), "")},
    "making": {
        "names_making": (("grammar", "tree"), (LONG, FA), "tree"), "takes": (("grammar", "tree"), (LONG, FA), "tree"),
    },
    "leasttrees": {"least_trees": (("grammar",), (LONG,), ""), "lot_least": (("grammar",), (LONG,), "")},
    "fairness": {
        "is_driven": (("grammar",), (LONG,), ""), "is_trim": (("grammar",), (LONG,), ""),
        "is_plain": (("grammar",), (LONG,), ""), "name_kinds": (("book", "grammar"), (BOLD, LONG), "grammar"),
        "is_fair": (("book", "grammar"), (BOLD, LONG), "grammar"),
        "breach_of": (("book", "grammar"), (DEEP, LONG), "grammar"),
    },
    "fencechecker": {
        "lets_fence": (("book", "inside", "outside", "thing"), (BOLD, (A, FA), (B,), LONG), "inside outside"),
    },
    "verdictkinds": {"is_paper_shape": (("thing",), (("in", LONG, ()),), "")},
    "verdictchecker": {
        "lets_verdict": (("book", "standing", "barred", "tree", "thing"), (BOLD, (A,), (B,), A, ("in", ONE, ())),
                         "standing barred tree"),
    },
    "plainclasses": {"plain_classes": (("book", "sentences"), (BOLD, (FA, FB)), "sentences")},
    "joinlists": {"joins_of": (("book", "sentences"), (BOLD, (FA, FB)), "sentences")},
    "ways": {
        "way_of": (("book", "given", "joins", "tree", "other"), (BOLD, (FA, FB), JOINS, FA, FB),
                   "given joins tree other"),
        "needed_of": (("book", "given", "joins", "number"), (BOLD, (FA, FB), JOINS, 0), "given joins number"),
    },
    "calledjoins": {
        "classes_with": (("book", "sentences", "tree", "other"), (BOLD, (FA, FB), A, FB), "sentences tree other"),
        "called_tree": (("book", "sentences", "tree", "node", "other"), (BOLD, (FA, FB), FA, 1, FB),
                        "sentences tree node other"),
    },
    "joinpapers": {
        "join_paper": (("book", "given", "tree"), (BOLD, (A, FA), FFA), "given tree"),
        "short_joins": (("book", "given", "joins", "tree"), (BOLD, (FA, FB), JOINS, FA), "given joins tree"),
    },
    "chainpapers": {
        "chain_paper": (("book", "given", "tree"), (BOLD, (A, FA), FFA), "given tree"),
        "chain_bound": (("book", "given", "many"), (BOLD, (A, FA), 3), "given many"),
        "joins_count": (("book", "given"), (BOLD, (A, FA)), "given"),
    },
    "grammartexts": {"grammar_text": (("grammar",), (LONG,), "")},
    "grammarreadings": {"read_grammar": (("text",), ("names 1\nstart 0\n0 = a",), "text")},
    "trims": {
        "trimmed": (("grammar",), (LONG,), ""), "plain_of": (("driven",), (LONG,), ""),
        "teaching_number": (("grammar",), (LONG,), ""),
    },
    "runs": {"name_of": (("driven", "tree"), (LONG, FA), "tree"), "unmade_in": (("driven", "tree"), (LONG, FB), "tree")},
    "found": {"grammar_of": (("book", "sentences"), (BOLD, (A, FA)), "sentences")},
    "maps": {"within_map": (("book", "fair", "other"), (BOLD, ONE, LONG), "fair other")},
    "partings": {
        "parting_of": (("driven", "other"), (LONG, ONE), "other"), "lies_within": (("driven", "other"), (ONE, LONG), "other"),
    },
    "rings": {
        "ring_of": (("driven",), (LONG,), ""),
        "pumped": (("tree", "node", "inner", "times"), (FFA, 0, 1, 3), "node inner times"),
    },
    "ringchecker": {"lets_ring": (("driven", "thing"), (LONG, (FFA, 1, 2)), "")},
    "splits": {"split_of": (("book", "grammar"), (DEEP, LONG), "grammar")},
    "homes": {"homes_of": (("book", "grammar"), (DEEP, LONG), "grammar")},
    "lessons": {
        "rule_lessons": (("book", "grammar"), (DEEP, LONG), "grammar"),
        "lessons_of": (("book", "grammar"), (DEEP, LONG), "grammar"),
    },
    "verdicts": {
        "verdict_of": (("book", "standing", "barred", "tree"), (BOLD, (A, FA), (FB,), FFA), "standing barred tree"),
        "odds_of": (("book", "standing", "barred"), (BOLD, (A, FA), (FFA,)), "standing barred"),
        "verdict_paper": (("book", "standing", "barred", "tree"), (BOLD, (A, FA), (FB,), B), "standing barred tree"),
    },
    "quarrels": {
        "quarrel_of": (("book", "standing", "barred"), (BOLD, (A, FA, FB), (FFA,)), "standing barred"),
    },
    "leans": {"lean_of": (("book", "sentences"), (BOLD, (FFA, FA, A)), "sentences")},
    "dials": {
        "boldest_of": (("standing", "barred"), ((A, FA), (FFA,)), "barred"),
        "doubt_of": (("sentences", "depth"), ((A, FA), 0), "depth"), "steps_of": (("sentences",), ((A,),), ""),
    },
    "brings": {"brings_of": (("book", "sentences", "tree"), (BOLD, (A, FA), B), "sentences tree")},
    "meets": {"met": (("driven", "other"), (LONG, EVEN), "other")},
    "closings": {"closing": (("book", "grammar"), (BOLD, TWO), "grammar")},
    "unions": {"united": (("book", "grammar", "other"), (BOLD, TWO, ONE), "grammar other")},
    "setforms": {"by_sets": (("grammar",), (TWO,), "")},
    "outsides": {
        "outside_of": (("driven", "grammar"), (LONG, EVEN), "grammar"),
        "is_same_lot": (("grammar", "other"), (LONG, EVEN), "other"),
    },
    "canons": {"canon_of": (("book", "grammar"), (DEEP, LONG), "grammar")},
    "closedtests": {
        "is_closed": (("book", "grammar"), (BOLD, TWO), "grammar"),
        "three_and_one": (("book", "grammar"), (BOLD, TWO), "grammar"),
        "chain_out": (("book", "grammar"), (BOLD, TWO), "grammar"),
    },
    "closeddepths": {"closed_depth": (("grammar", "most"), (TWO, 3), "most")},
    "teaching": {
        "is_taught": (("book", "sentences", "fair"), (BOLD, (FFA, FA), LONG), "sentences fair"),
        "unused_rules": (("driven", "sentences"), (LONG, (A,)), "sentences"),
        "question_bound": (("book", "fair"), (BOLD, LONG), "fair"),
    },
    "led": {
        "led_on": (("learner", "teacher"), (Learner(BOLD, True), Teacher(BOLD, LONG, ())), "teacher"),
    },
    "talkchecker": {"lets_talk": (("book", "sparing", "thing"), (BOLD, True, (("propose", EMPTY, A),)), "sparing")},
    "counts": {
        "count_of": (("driven", "nodes"), (LONG, 3), "nodes"), "counts_to": (("driven", "most"), (LONG, 3), "most"),
        "lot_size": (("driven",), (ONE,), ""),
    },
    "numbering": {
        "number_of": (("driven", "tree"), (LONG, FA), "tree"), "tree_at": (("driven", "number"), (LONG, 3), "number"),
        "ahead_count": (("driven", "tree"), (LONG, FB), "tree"), "next_tree": (("driven", "tree"), (LONG, FB), "tree"),
    },
    "holes": {
        "least_fill": (("driven", "pattern"), (LONG, HOLED), "pattern"),
        "fill_count": (("driven", "pattern", "nodes"), (LONG, HOLED, 4), "pattern nodes"),
        "hole_names": (("driven", "pattern"), (LONG, HOLED), "pattern"),
    },
    "mending": {"mend_of": (("driven", "tree"), (LONG, FB), "tree")},
    "floors": {"floors_of": (("driven", "tree"), (LONG, FB), "tree")},
    "floorchecker": {"lets_floors": (("driven", "tree", "thing"), (LONG, B, (((1, 1),), (((2, 1),),))), "tree")},
    "readings": {"least_reading": (("driven", "words"), (LONG, ("a",)), "words")},
    "readcounts": {
        "reading_count": (("driven", "words", "nodes"), (LONG, ("a",), 3), "words nodes"),
        "reading_total": (("driven", "words"), (ONE, ("a",)), "words"),
    },
    "papertexts": {"chain_text": (("chain",), (CHAIN,), ""), "joins_text": (("joins",), (JOINS,), "")},
    "paperreadings": {"read_chain": (("text",), ("given a",), "text"), "read_joins": (("text",), ("up a b",), "text")},
    "events": {"is_event": (("thing",), (("put", A),), "")},
    "eventtexts": {
        "event_line": (("event",), (("put", A),), ""), "log_text": (("log",), ((("put", A),),), ""),
        "read_event": (("text",), ("put a",), "text"), "read_log": (("text",), ("put a",), "text"),
    },
    "journals": {
        "replayed": (("book", "log"), (BOLD, (("put", A),)), "log"), "fresh_desk": (("state",), ((BOLD, (A,), ()),), ""),
        "merged_desks": (("one", "two"), (Desk(BOLD), Desk(BOLD)), "two"),
    },
}
# For each class its file, its parameters with good arguments for them, those of them that are refused if wrong,
# and its methods with their parameters behind the object.
CLASSES = {
    Closure: ("closures", ("book",), (BOLD,), "", {
        "put": ("tree",), "take": ("tree",), "take_last": (), "standing": (), "classes": (), "joins": (), "numbers": (),
        "is_same": ("tree", "other"), "takes_in": ("tree",), "__eq__": ("other",),
    }),
    Judged: ("judging", ("book",), (BOLD,), "", {
        "put": ("tree",), "bar": ("tree",), "take": ("tree",), "free": ("tree",), "standing": (), "barred": (),
        "verdict": ("tree",), "paper": ("tree",), "odds": (), "grammar": (), "__eq__": ("other",),
    }),
    Learner: ("learners", ("book", "sparing"), (BOLD, True), "sparing", {
        "wants": (), "told": ("answer",), "numbers": (), "told_trees": (), "yeses": (), "noes": (), "talk": (),
    }),
    Teacher: ("teachers", ("book", "fair", "order"), (BOLD, LONG, (A,)), "fair order", {"reply": ("want",)}),
    Stream: ("streams", ("book",), (BOLD,), "", {"hear": ("tree",), "form": (), "heard": (), "changes": ()}),
    Desk: ("desk", ("book",), (BOLD,), "", {
        "put": ("tree",), "bar": ("tree",), "take": ("tree",), "free": ("tree",), "change_book": ("book",), "undo": ("steps",),
        "do_event": ("event",), "do_all": ("events", "keep"), "state": (), "log": (), "__eq__": ("other",),
        "verdict": ("tree",), "paper": ("tree",), "grammar": (), "lessons": (), "lean": (), "quarrel": (), "boldest": (),
        "doubt": ("depth",), "brings": ("tree",), "counted": ("nodes",), "tree_by": ("number",), "mended": ("tree",),
        "reading": ("words",),
    }),
}
TRUTHS = "is_word is_symbol is_tree is_pattern is_trees is_ahead fits is_simple is_book is_led is_grammar takes".split()
TRUTHS += "is_driven is_trim is_plain is_fair is_paper_shape lies_within is_same_lot is_closed is_taught lets_talk is_event".split()
COUNTS = "lets_tree levels_of shared_of price_of lets_book lets_fence chain_bound joins_count teaching_number".split()
COUNTS += "name_of lets_ring boldest_of closed_depth question_bound count_of lot_size number_of ahead_count".split()
COUNTS += "fill_count reading_count reading_total".split()
TEXTS = "shown book_text lets_verdict grammar_text verdict_of chain_text joins_text event_line log_text".split()
DESKS = "replayed fresh_desk merged_desks".split()


def plainly(value):
    """The value, a desk being told by its state and its log."""
    return (value.state(), value.log()) if isinstance(value, Desk) else value


class TestInterface(Checks, unittest.TestCase):

    def each_function(self):
        for file, functions in INTERFACE.items():
            module = importlib.import_module("stoodthere." + file)
            for name, (parameters, given, checked) in functions.items():
                yield name, getattr(module, name), parameters, given, checked.split()

    def test_functions_stand_in_their_files(self):
        for file, functions in INTERFACE.items():
            module = importlib.import_module("stoodthere." + file)
            for name in functions:
                function = getattr(module, name)
                self.assertTrue(inspect.isfunction(function))
                self.assertEqual(function.__module__, "stoodthere." + file)
                self.assertEqual(os.path.basename(function.__code__.co_filename), file + ".py")

    def test_parameters(self):
        for _, function, parameters, _, _ in self.each_function():
            told = inspect.signature(function).parameters
            self.assertEqual(tuple(told), parameters)
            for parameter in told.values():
                self.assertEqual(parameter.kind, inspect.Parameter.POSITIONAL_OR_KEYWORD)
                self.assertIs(parameter.default, inspect.Parameter.empty)

    def test_by_position_and_by_name(self):
        for _, function, parameters, given, _ in self.each_function():
            named = dict(zip(parameters, given))
            first = plainly(function(*given))
            self.assert_same(plainly(function(**named)), first)
            backwards = {name: named[name] for name in reversed(parameters)}
            self.assert_same(plainly(function(**backwards)), first)

    def test_results_are_of_their_sort(self):
        for name, function, _, given, _ in self.each_function():
            sort = bool if name in TRUTHS else int if name in COUNTS else str if name in TEXTS else tuple
            self.assertIs(type(function(*given)), Desk if name in DESKS else sort, name)

    def test_results_depend_on_the_arguments_alone(self):
        for _, function, _, given, _ in self.each_function():
            first = plainly(function(*given))
            self.assert_same(plainly(function(*copy.deepcopy(given))), first)

    def test_classes(self):
        for made, (file, parameters, given, checked, methods) in CLASSES.items():
            self.assertEqual(made.__module__, "stoodthere." + file)
            self.assertEqual(tuple(inspect.signature(made).parameters), parameters)
            one, two = made(*given), made(**dict(zip(parameters, given)))
            self.assertEqual(one == two, "__eq__" in methods)
            for name, behind in methods.items():
                # Defined in the class itself, not only in a base class.
                method = vars(made)[name]
                self.assertEqual(tuple(inspect.signature(method).parameters)[1:], behind)
            names = checked.split()
            for many in range(1, len(names) + 1):
                for wrong in itertools.combinations(names, many):
                    filled = [None if other in wrong else value for other, value in zip(parameters, given)]
                    self.assert_not_usable(wrong[0], made, *filled)

    def test_wrong_parameters(self):
        for _, function, parameters, given, checked in self.each_function():
            for name in checked:
                wrong = [None if other == name else value for other, value in zip(parameters, given)]
                self.assert_not_usable(name, function, *wrong)

    def test_of_several_wrong_ones_the_first_is_told(self):
        for _, function, parameters, given, checked in self.each_function():
            for many in range(2, len(checked) + 1):
                for names in itertools.combinations(checked, many):
                    wrong = [None if other in names else value for other, value in zip(parameters, given)]
                    self.assert_not_usable(names[0], function, *wrong)

    def test_any_value_stays_as_it_is(self):
        """Lists that are passed in, in whatever place any value may stand, are not changed."""
        value = [["put", [0, ["a", 0]]], (["given"], [["a", 0]]), ["root", [A], [A], [0]]]
        for _, function, parameters, given, checked in self.each_function():
            for name in checked + ["thing"]:
                if name not in parameters:
                    continue
                thing = copy.deepcopy(value)
                for wrong in (thing, tuple(thing), (thing,), (tuple(thing),)):
                    before = repr(wrong)
                    filled = [wrong if other == name else kept for other, kept in zip(parameters, given)]
                    try:
                        function(*filled)
                    except ValueError:
                        pass
                    self.assertEqual(repr(wrong), before)


if __name__ == "__main__":
    unittest.main()
