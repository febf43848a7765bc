"""Trees, books, grammars and wrong values that the tests share."""

BOLD, DEEP = (("depth", 0),), (("depth", 1),)
A, B, C = (("a", 0),), (("b", 0),), (("c", 0),)
DOT = ((".", 0),)
FA, FB = (("f", 1), ("a", 0)), (("f", 1), ("b", 0))
FFA = (("f", 1), ("f", 1), ("a", 0))
G = (("g", 2), ("f", 1), ("a", 0), ("b", 0))
BOTH = (("g", 2), ("f", 1), ("a", 0), ("f", 1), ("b", 0))
WIDE = (("w", 4), ("a", 0), ("f", 1), (".", 0), ("g", 2), ("b", 0), ("a", 0), ("c", 0))
LONG = (1, (0,), ((0, "a", ()), (0, "f", (0,))))
EMPTY = (0, (), ())
ONE = (1, (0,), ((0, "a", ()),))
EVEN = (2, (0,), ((0, "a", ()), (0, "f", (1,)), (1, "f", (0,))))
ODD = (2, (1,), EVEN[2])
FAIR_DEEP = (2, (0, 1), ((0, "a", ()), (1, "f", (0,)), (1, "f", (1,))))
FOUND = (2, (1,), ((0, "a", ()), (0, "b", ()), (1, "f", (0,))))
MIX = (("depth", 1), ("groups", (("a", 5),), 0), ("table", (("a", (), 1), ("f", (1,), 2)), 9))
DEEPEST_TREE = (("f", 1),) * 59 + (("a", 0),)

BOOKS = (
    BOLD,
    DEEP,
    (("depth", 2),),
    (("depth", 60),),
    (("groups", (), 0),),
    (("groups", (("a", 1), ("b", 1), ("f", 2)), 0),),
    (("groups", (("a", 99), ("g", 0)), 99), ("depth", 1)),
    (("table", (), 7),),
    (("table", (("a", (), 1), ("b", (), 1), ("f", (1,), 0)), 1),),
    (("table", (("a", (), 0), ("b", (), 1), ("f", (0,), 1), ("f", (1,), 0), ("g", (0, 1), 0)), 1),),
    (("depth", 0), ("table", (("a", (), 3), ("f", (3,), 3)), 4)),
    MIX,
)

# None of these is a tree; each is "any value".
WRONG_TREES = (
    None, True, False, 0, 1, -3, 10 ** 59, "", "a", "f(a)", (), [], [("a", 0)], ("a", 0), (("a",),), ((),),
    (("a", 0), ("b", 0)), (("f", 1),), (("f", 1), ("a", 0), ("a", 0)), (("g", 2), ("a", 0)),
    (("a", False),), (("f", True), ("a", 0)), (["a", 0],), (("a", 0, 0),), (("a", "0"),), (("a", None),),
    (("a", -1),), (("f", 5),) + (("a", 0),) * 5, (("A", 0),), (("", 0),), (("a_b", 0),), (("1a", 0),),
    (("-a", 0),), (("a" * 17, 0),), ((".", 1), ("a", 0)), (("..", 0),), (("?", 0),), (("f", 1), ("?", 0)),
    (("_", 0),), (("a b", 0),), (("a", 0), None), (A, B), ((A,),), (None,), ("a",),
)

# None of these is a number.
WRONG_NUMBERS = (None, True, False, -1, -(10 ** 59), "", "0", "1", (), (0,), [], [1])

# None of these is sentences.
WRONG_SENTENCES = (
    None, True, 0, "", "a", [], [A], A, (A, A), (A, FA, A), (A, [("a", 0)]), (A, ()), (A, None), ((("a", False),),),
    ((("a", 0), ("b", 0)),), (FA, (("f", 1),)), (("a", 0),), ((("?", 0),),), ("a",), (((),),),
)

# None of these is a grammar.
WRONG_GRAMMARS = (
    None, True, 0, "", (), [], (1,), (1, (0,)), [1, (0,), ()], (1, (1,), ()), (1, (0, 0), ()), (1, [0], ()),
    (1, (0,), []), (1, (False,), ()), (True, (0,), ()), (-1, (), ()), (1, (0,), ((0, "a", ()), (0, "a", ()))),
    (1, (0,), ((0, "f", (0,)), (0, "a", ()))), (1, (0,), ((0, "a", (1,)),)), (1, (0,), ((0, ".", (0,)),)), A,
    (1, (0,), ((0, "f", (0,) * 5),)), (1, (0,), ((0, "f", (True,)),)), (1, (0,), ((0, "A", ()),)),
)

WRONG_TEXTS = (None, True, 0, 7, (), ("a",), [], ["a"])


class Draw:
    """Draws numbers by a fixed rule, so that each run of the tests is the same."""

    def __init__(self, seed):
        self.state = seed

    def below(self, most):
        self.state = (self.state * 6364136223846793005 + 1442695040888963407) % 2 ** 64
        return (self.state >> 33) % most

    def one_of(self, row):
        return row[self.below(len(row))]

    def some_of(self, row, many):
        """So many different ones of row, in any sequence."""
        left = list(row)
        return [left.pop(self.below(len(left))) for _ in range(min(many, len(left)))]


def trees_up_to(symbols, most):
    """All trees of these symbols with at most most symbols, in order."""
    by_size = {0: []}
    for size in range(1, most + 1):
        row = []
        for word, many in symbols:
            for parts in rows_of_size(by_size, many, size - 1):
                row.append(((word, many),) + parts)
        by_size[size] = row
    return sorted((tree for row in by_size.values() for tree in row), key=lambda tree: (len(tree), tree))


def rows_of_size(by_size, many, size):
    if many == 0:
        return [()] if size == 0 else []
    return [
        head + rest
        for first in range(1, size + 1)
        for head in by_size.get(first, [])
        for rest in rows_of_size(by_size, many - 1, size - first)
    ]


SMALL_SYMBOLS = (("a", 0), ("b", 0), ("f", 1), ("g", 2))
SMALL_TREES = trees_up_to(SMALL_SYMBOLS, 5)


def drawn_tree(draw, most):
    """A tree of at most about most symbols, with roots of all kinds."""
    symbols = []
    missing = 1
    while missing > 0:
        if len(symbols) + missing >= most:
            symbol = draw.one_of((("a", 0), ("b", 0), ("c-1", 0), (".", 0)))
        else:
            symbol = draw.one_of(
                (("a", 0), ("b", 0), (".", 0), ("f", 1), ("a", 1), ("g", 2), ("g", 2), ("h", 3), ("w", 4))
            )
        symbols.append(symbol)
        missing += symbol[1] - 1
    return tuple(symbols)


def drawn_trees(seed, many, most):
    draw = Draw(seed)
    found = []
    while len(found) < many:
        tree = drawn_tree(draw, most)
        if tree not in found:
            found.append(tree)
    return tuple(found)


SOME_TREES = (A, B, DOT, FA, FB, FFA, G, BOTH, WIDE) + drawn_trees(1, 30, 12) + drawn_trees(2, 6, 40) + (DEEPEST_TREE,)


def drawn_grammar(draw, names, many_rules, symbols=SMALL_SYMBOLS):
    """A grammar with so many names and at most so many rules, of whatever sort."""
    rules = set()
    for _ in range(many_rules):
        word, many = draw.one_of(symbols)
        rules.add((draw.below(names), word, tuple(draw.below(names) for _ in range(many))))
    starts = {draw.below(names) for _ in range(1 + draw.below(names))}
    return (names, tuple(sorted(starts)), tuple(sorted(rules)))


def drawn_driven(draw, names, many_rules, symbols=SMALL_SYMBOLS):
    """The same, but driven."""
    _, starts, rules = drawn_grammar(draw, names, many_rules, symbols)
    results = {}
    for result, word, parts in rules:
        results.setdefault((word, parts), result)
    return (names, starts, tuple(sorted((result, word, parts) for (word, parts), result in results.items())))


def drawn_sentences(draw, many, trees=tuple(SMALL_TREES)):
    return tuple(draw.some_of(trees, many))
