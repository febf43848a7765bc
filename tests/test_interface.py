"""The interface: where each function stands, its parameters, and what holds of all of them by [2] and [12]."""

import copy
import importlib
import inspect
import itertools
import os
import unittest

from tests.checks import Checks
from tests.samples import A, B, BOLD, DEEP, FA, FB, FFA, G, LONG, MIX

AF = (("a", 0), ("f", 1))
JOINS = (("root", FA, FB, 0),)
CHAIN = (("given", FA), ("given", FB), ("put", 0, 1, 0, 1, 1))

# For each file its functions: the parameters, good arguments for them, and those that are refused if wrong.
INTERFACE = {
    "treekinds": {
        "is_word": (("thing",), ("a",), ""), "is_symbol": (("thing",), (("a", 0),), ""),
        "is_tree": (("thing",), (A,), ""), "is_pattern": (("thing",), (A,), ""), "is_trees": (("thing",), ((A,),), ""),
    },
    "treechecker": {"lets_tree": (("thing",), (FA,), "")},
    "pieces": {
        "ends_of": (("tree",), (G,), ""), "piece_at": (("tree", "node"), (G, 1), "node"),
        "with_piece": (("tree", "node", "piece"), (G, 1, B), "node piece"), "parts_of": (("tree",), (G,), ""),
        "tree_of": (("word", "parts"), ("f", (A, B)), "parts"),
    },
    "piecelists": {
        "pieces_of": (("trees",), ((G, FFA),), ""), "symbols_of": (("trees",), ((G, FFA),), ""),
        "levels_of": (("tree",), (G,), ""),
    },
    "places": {
        "place_of": (("tree", "node"), (G, 2), "node"),
        "put_at": (("place", "piece"), (((("f", 1),), ()), G), "piece"),
    },
    "orders": {
        "is_ahead": (("tree", "other"), (A, B), "other"), "least_of": (("trees",), ((B, A, B),), ""),
        "in_order": (("trees",), ((B, A, B),), ""),
    },
    "prices": {
        "leaves_of": (("tree",), (G,), ""), "shared_of": (("tree", "other"), (G, FA), "other"),
        "price_of": (("tree", "other"), (G, FA), "other"), "holes_of": (("pattern",), ((("?", 0),),), ""),
        "fits": (("pattern", "tree"), ((("?", 0),), G), "tree"),
    },
    "treetexts": {"shown": (("tree",), (G,), "")},
    "treereadings": {
        "read_tree": (("text",), ("f(a)",), "text"), "read_pattern": (("text",), ("f(?)",), "text"),
    },
    "bookkinds": {"is_simple": (("thing",), (MIX[2],), ""), "is_book": (("thing",), (MIX,), "")},
    "bookchecker": {"lets_book": (("thing",), (MIX,), "")},
    "books": {"depth_book": (("depth",), (3,), ""), "paired": (("book", "other"), (MIX, DEEP), "")},
    "booktexts": {"book_text": (("book",), (MIX,), "")},
    "bookreadings": {"read_book": (("text",), ("depth 1",), "text")},
    "cuts": {"cut": (("tree", "depth"), (G, 1), "depth")},
    "kinds": {
        "kind_from": (("book", "word", "kinds"), (DEEP, "f", ((A,),)), "word"),
        "kind_of": (("book", "tree"), (MIX, G), "tree"), "kinds_of": (("book", "tree"), (MIX, G), "tree"),
    },
    "kindlists": {
        "kinds_over": (("book", "symbols"), (MIX, AF), "symbols"),
        "pieces_by_kind": (("book", "trees"), (MIX, (G, FFA)), "trees"),
    },
    "finers": {"finer_pair": (("book", "other", "symbols"), (BOLD, DEEP, AF), "symbols")},
    "exchanges": {
        "exchanged": (("book", "one", "two", "node", "third", "place"), (BOLD, FA, FB, 1, FA, 1),
                      "one two node third place"),
    },
    "rounds": {
        "fourths_of": (("book", "trees"), (BOLD, (A, FA)), "trees"),
        "one_round": (("book", "trees", "most"), (BOLD, (A, FA), 9), "trees most"),
        "grown": (("book", "trees", "most", "rounds"), (BOLD, (A, FA), 9, 2), "trees most rounds"),
        "open_exchange": (("book", "trees"), (BOLD, (A, FA)), "trees"),
    },
    "chainchecker": {"lets_chain": (("book", "given", "thing"), (BOLD, (FA, FB), CHAIN), "given")},
    "joinchecker": {"lets_joins": (("book", "given", "thing"), (BOLD, (FA, FB), JOINS), "given")},
    "ledtrees": {
        "is_led": (("book", "given", "joins", "tree"), (BOLD, (FA, FB), JOINS, FA), "given joins tree"),
        "classes_making": (("book", "given", "joins", "tree"), (BOLD, (FA, FB), JOINS, FA), "given joins tree"),
    },
    "grammarkinds": {"is_grammar": (("thing",), (LONG,), "")},
    "making": {
        "names_making": (("grammar", "tree"), (LONG, FA), "tree"), "takes": (("grammar", "tree"), (LONG, FA), "tree"),
    },
    "leasttrees": {"least_trees": (("grammar",), (LONG,), ""), "lot_least": (("grammar",), (LONG,), "")},
    "fairness": {
        "is_driven": (("grammar",), (LONG,), ""), "is_trim": (("grammar",), (LONG,), ""),
        "is_plain": (("grammar",), (LONG,), ""), "name_kinds": (("book", "grammar"), (BOLD, LONG), "grammar"),
        "is_fair": (("book", "grammar"), (BOLD, LONG), "grammar"),
        "breach_of": (("book", "grammar"), (DEEP, LONG), "grammar"),
    },
}
TRUTHS = "is_word is_symbol is_tree is_pattern is_trees is_ahead fits is_simple is_book is_led is_grammar takes".split()
TRUTHS += "is_driven is_trim is_plain is_fair".split()
COUNTS = "lets_tree levels_of shared_of price_of lets_book".split()
TEXTS = "shown book_text".split()


class TestInterface(Checks, unittest.TestCase):

    def each_function(self):
        for file, functions in INTERFACE.items():
            module = importlib.import_module("stoodthere." + file)
            for name, (parameters, given, checked) in functions.items():
                yield name, getattr(module, name), parameters, given, checked.split()

    def test_functions_stand_in_their_files(self):
        for file, functions in INTERFACE.items():
            module = importlib.import_module("stoodthere." + file)
            for name in functions:
                function = getattr(module, name)
                self.assertTrue(inspect.isfunction(function))
                self.assertEqual(function.__module__, "stoodthere." + file)
                self.assertEqual(os.path.basename(function.__code__.co_filename), file + ".py")

    def test_parameters(self):
        for _, function, parameters, _, _ in self.each_function():
            told = inspect.signature(function).parameters
            self.assertEqual(tuple(told), parameters)
            for parameter in told.values():
                self.assertEqual(parameter.kind, inspect.Parameter.POSITIONAL_OR_KEYWORD)
                self.assertIs(parameter.default, inspect.Parameter.empty)

    def test_by_position_and_by_name(self):
        for _, function, parameters, given, _ in self.each_function():
            named = dict(zip(parameters, given))
            self.assert_same(function(*given), function(**named))
            backwards = {name: named[name] for name in reversed(parameters)}
            self.assert_same(function(*given), function(**backwards))

    def test_results_are_of_their_sort(self):
        for name, function, _, given, _ in self.each_function():
            sort = bool if name in TRUTHS else int if name in COUNTS else str if name in TEXTS else tuple
            self.assertIs(type(function(*given)), sort, name)

    def test_results_depend_on_the_arguments_alone(self):
        for _, function, _, given, _ in self.each_function():
            first = function(*given)
            self.assert_same(function(*copy.deepcopy(given)), first)

    def test_wrong_parameters(self):
        for _, function, parameters, given, checked in self.each_function():
            for name in checked:
                wrong = [None if other == name else value for other, value in zip(parameters, given)]
                self.assert_not_usable(name, function, *wrong)

    def test_of_several_wrong_ones_the_first_is_told(self):
        for _, function, parameters, given, checked in self.each_function():
            for many in range(2, len(checked) + 1):
                for names in itertools.combinations(checked, many):
                    wrong = [None if other in names else value for other, value in zip(parameters, given)]
                    self.assert_not_usable(names[0], function, *wrong)

    def test_any_value_stays_as_it_is(self):
        """Lists that are passed in, in whatever place any value may stand, are not changed."""
        value = [["put", [0, ["a", 0]]], (["given"], [["a", 0]]), ["root", [A], [A], [0]]]
        for _, function, parameters, given, checked in self.each_function():
            for name in checked + ["thing"]:
                if name not in parameters:
                    continue
                thing = copy.deepcopy(value)
                for wrong in (thing, tuple(thing), (thing,), (tuple(thing),)):
                    before = repr(wrong)
                    filled = [wrong if other == name else kept for other, kept in zip(parameters, given)]
                    try:
                        function(*filled)
                    except ValueError:
                        pass
                    self.assertEqual(repr(wrong), before)


if __name__ == "__main__":
    unittest.main()
