"""The examples of the document for the points that have landed, as they stand there."""

import unittest

EXAMPLES = {
    "Examples": '''
    >>> BOLD, DEEP = (("depth", 0),), (("depth", 1),)
    >>> A, B = (("a", 0),), (("b", 0),)
    >>> FA, FB = (("f", 1), ("a", 0)), (("f", 1), ("b", 0))
    >>> FFA = (("f", 1), ("f", 1), ("a", 0))
    >>> LONG = (1, (0,), ((0, "a", ()), (0, "f", (0,))))
    ''',
    "treekinds": '''
    >>> is_word("f-1"), is_word("-f"), is_word("."), is_word("")
    (True, False, True, False)
    >>> is_symbol((".", 1)), is_symbol(["a", 0]), is_symbol(("a", True))
    (False, False, False)
    >>> is_tree(FA), is_tree((("f", 1),)), is_pattern((("f", 1), ("?", 0)))
    (True, False, True)
    >>> is_trees(()), is_trees((A, B)), is_trees((A, A))
    (True, True, False)
    ''',
    "treechecker": '''
    >>> lets_tree(FA)
    2
    >>> lets_tree((("a", 0), None))
    raises InvalidPaper('behind', 1)
    >>> lets_tree((("f", 1),))
    raises InvalidPaper('end', 1)
    ''',
    "pieces": '''
    >>> G = (("g", 2), ("f", 1), ("a", 0), ("b", 0))
    >>> ends_of(G)
    (4, 3, 3, 4)
    >>> piece_at(G, 1), with_piece(FA, 1, FB)
    ((('f', 1), ('a', 0)), (('f', 1), ('f', 1), ('b', 0)))
    >>> piece_at(FA, 2)
    raises NotUsable('node', -1)
    >>> parts_of(G), parts_of(A)
    (((('f', 1), ('a', 0)), (('b', 0),)), ())
    >>> tree_of("g", (FA, B)) == G, tree_of("a", ())
    (True, (('a', 0),))
    ''',
    "piecelists": '''
    >>> pieces_of((FFA, FA))
    ((('a', 0),), (('f', 1), ('a', 0)), (('f', 1), ('f', 1), ('a', 0)))
    >>> symbols_of((G, FA))
    (('a', 0), ('b', 0), ('f', 1), ('g', 2))
    >>> levels_of(A), levels_of(G)
    (1, 3)
    ''',
    "places": '''
    >>> place_of(G, 1), place_of(A, 0)
    (((('g', 2),), (('b', 0),)), ((), ()))
    >>> put_at(((("g", 2),), (("b", 0),)), A)
    (('g', 2), ('a', 0), ('b', 0))
    ''',
    "orders": '''
    >>> is_ahead(B, FA), is_ahead(FB, FA), is_ahead(A, A)
    (True, False, False)
    >>> least_of((FA, B)), least_of(())
    ((('b', 0),), None)
    >>> in_order((FA, B, FA, A))
    ((('a', 0),), (('b', 0),), (('f', 1), ('a', 0)))
    ''',
    "prices": '''
    >>> leaves_of(G), leaves_of(((".", 0),))
    (('a', 'b'), ())
    >>> shared_of(G, (("g", 2), ("b", 0), ("b", 0))), price_of(G, FA), price_of(A, A)
    (2, 6, 0)
    >>> P = (("g", 2), ("?", 0), ("?", 0))
    >>> holes_of(P), holes_of(A)
    ((1, 2), ())
    >>> fits(P, G), fits((("?", 0),), A), fits((("f", 1), ("?", 0)), B)
    (True, True, False)
    ''',
    "treetexts": '''
    >>> shown(G), shown((("f", 2), (".", 0), ("?", 0)))
    ('g(f(a),b)', 'f(.,?)')
    ''',
    "treereadings": '''
    >>> read_tree("f(a)"), read_pattern("?")
    ((('f', 1), ('a', 0)), (('?', 0),))
    >>> read_tree("f(a,)")
    raises InvalidText(0, 4)
    >>> read_tree("f(a")
    raises InvalidText(0, 3)
    ''',
    "bookkinds": '''
    >>> from stoodthere.bookkinds import is_simple, is_book
    >>> is_simple(("groups", (("a", 1), ("b", 1)), 0)), is_simple(("groups", (("b", 1), ("a", 1)), 0))
    (True, False)
    >>> is_book(()), is_book((("depth", 60),)), is_book((("depth", True),))
    (False, True, False)
    ''',
    "bookchecker": '''
    >>> from stoodthere.bookchecker import lets_book
    >>> lets_book((("depth", 0), ("groups", (("a", 1), ("a", 2)), 100)))
    raises InvalidPaper('sequence', 1)
    ''',
    "books": '''
    >>> from stoodthere.books import depth_book, paired
    >>> paired(BOLD, depth_book(0)), paired(DEEP, BOLD)
    ((('depth', 0),), (('depth', 1), ('depth', 0)))
    ''',
    "booktexts": '''
    >>> from stoodthere.booktexts import book_text
    >>> book_text((("depth", 1), ("groups", (("a", 1), ("b", 2)), 0), ("table", (("a", (), 1), ("f", (0, 1), 2)), 0)))
    'depth 1 + groups a=1 b=2 else 0 + table a()=1 f(0,1)=2 else 0'
    ''',
    "bookreadings": '''
    >>> from stoodthere.bookreadings import read_book
    >>> read_book("groups else=7 else 0 + depth 2")
    (('groups', (('else', 7),), 0), ('depth', 2))
    >>> read_book("groups b=1 a=1 else 0")
    raises InvalidText(0, 2)
    ''',
    "cuts": '''
    >>> from stoodthere.cuts import cut
    >>> cut(FFA, 0), cut(FFA, 2)
    ((('_', 0),), (('f', 1), ('f', 1), ('_', 0)))
    ''',
    "kinds": '''
    >>> from stoodthere.kinds import kind_from, kind_of, kinds_of
    >>> mix = (("depth", 1), ("groups", (("a", 5),), 0), ("table", (("a", (), 1), ("f", (1,), 2)), 9))
    >>> kinds_of(mix, FA)
    (((('f', 1), ('_', 0)), 0, 2), ((('a', 0),), 5, 1))
    >>> kind_from(mix, "f", (kind_of(mix, FA),))
    ((('f', 1), ('_', 0)), 0, 9)
    ''',
    "kindlists": '''
    >>> from stoodthere.kindlists import kinds_over, pieces_by_kind
    >>> kinds_over(DEEP, (("a", 0), ("f", 1)))
    ((((('a', 0),),), (('a', 0),)), (((('f', 1), ('_', 0)),), (('f', 1), ('a', 0))))
    >>> pieces_by_kind(DEEP, (FB, FA))
    (((('a', 0),),), ((('b', 0),),), ((('f', 1), ('a', 0)), (('f', 1), ('b', 0))))
    ''',
    "finers": '''
    >>> from stoodthere.finers import finer_pair
    >>> finer_pair(BOLD, DEEP, (("a", 0), ("f", 1))), finer_pair(DEEP, BOLD, (("a", 0), ("f", 1)))
    (((('a', 0),), (('f', 1), ('a', 0))), None)
    ''',
    "rounds": '''
    >>> fourths_of(BOLD, (A, FA))
    ((('f', 1), ('f', 1), ('a', 0)),)
    ''',
    "chainchecker": '''
    >>> lets_chain(BOLD, (A, FA), (("given", FA), ("given", A), ("put", 0, 1, 1, 0, 0)))
    ((('f', 1), ('a', 0)), (('a', 0),), (('f', 1), ('f', 1), ('a', 0)))
    ''',
    "ledtrees": '''
    >>> both = (("g", 2), ("f", 1), ("a", 0), ("f", 1), ("b", 0))
    >>> classes_making(BOLD, (A, B, both), (("root", A, B, 0),), FA)
    (1, 2)
    ''',
    "fairness": '''
    >>> breach_of(BOLD, (2, (0, 1), ((0, "a", ()), (1, "b", ()))))
    ('single', 1)
    ''',
}
IMPORTS = '''
from stoodthere.chainchecker import lets_chain
from stoodthere.fairness import breach_of
from stoodthere.ledtrees import classes_making
from stoodthere.orders import in_order, is_ahead, least_of
from stoodthere.piecelists import levels_of, pieces_of, symbols_of
from stoodthere.pieces import ends_of, parts_of, piece_at, tree_of, with_piece
from stoodthere.places import place_of, put_at
from stoodthere.prices import fits, holes_of, leaves_of, price_of, shared_of
from stoodthere.rounds import fourths_of
from stoodthere.treechecker import lets_tree
from stoodthere.treekinds import is_pattern, is_symbol, is_tree, is_trees, is_word
from stoodthere.treereadings import read_pattern, read_tree
from stoodthere.treetexts import shown
'''


def told_by(line, names):
    """What the document writes below a line: the value, or the error that is raised; "" for a statement."""
    try:
        code = compile(line, "example", "eval")
    except SyntaxError:
        exec(line, names)
        return ""
    try:
        return repr(eval(code, names))
    except ValueError as error:
        fields = ", ".join(repr(value) for value in vars(error).values())
        return f"raises {type(error).__name__}({fields})"


class TestExamples(unittest.TestCase):

    def test_examples(self):
        names = {}
        exec(IMPORTS, names)
        for point, text in EXAMPLES.items():
            lines = [line.strip() for line in text.strip().split("\n")]
            for line, wanted in zip(lines, lines[1:] + [">>>"]):
                if line.startswith(">>> "):
                    wanted = "" if wanted.startswith(">>>") else wanted
                    self.assertEqual(told_by(line[4:], names), wanted, (point, line))


if __name__ == "__main__":
    unittest.main()
