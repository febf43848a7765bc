"""The definitions of the document once more, written as plainly as can be, over nested trees.

A nested tree is a pair (word, children), children a tuple of nested trees. Nothing here
imports the package.
"""

import itertools


def nested(tree):
    """The nested tree of a tuple of symbols; entries may also be holes or stubs."""
    whole, end = nested_from(tree, 0)
    assert end == len(tree)
    return whole


def nested_from(tree, at):
    word, many = tree[at]
    at += 1
    children = []
    for _ in range(many):
        child, at = nested_from(tree, at)
        children.append(child)
    return (word, tuple(children)), at


def flat(whole):
    word, children = whole
    row = ((word, len(children)),)
    for child in children:
        row += flat(child)
    return row


def nodes(whole):
    """All pieces of a nested tree in the sequence of their nodes, as flat trees."""
    row = [flat(whole)]
    for child in whole[1]:
        row += nodes(child)
    return row


def paths(whole, path=()):
    """For each node, in sequence, the way to it: which child is taken each time."""
    row = [path]
    for k, child in enumerate(whole[1]):
        row += paths(child, path + (k,))
    return row


def replaced(whole, path, piece):
    if not path:
        return piece
    word, children = whole
    k = path[0]
    return (word, children[:k] + (replaced(children[k], path[1:], piece),) + children[k + 1:])


def with_other(tree, node, piece):
    whole = nested(tree)
    return flat(replaced(whole, paths(whole)[node], nested(piece)))


def key(tree):
    return (len(tree), tree)


def ordered(trees):
    return tuple(sorted(set(trees), key=key))


def all_pieces(trees):
    return ordered(piece for tree in trees for piece in nodes(nested(tree)))


def levels(whole):
    return 1 + max([levels(child) for child in whole[1]], default=0)


def text(whole):
    word, children = whole
    if not children:
        return word
    return word + "(" + ",".join(text(child) for child in children) + ")"


def leaves(whole):
    word, children = whole
    if not children:
        return () if word == "." else (word,)
    return tuple(leaf for child in children for leaf in leaves(child))


def shared(one, two):
    if one[0] != two[0] or len(one[1]) != len(two[1]):
        return 0
    return 1 + sum(shared(left, right) for left, right in zip(one[1], two[1]))


def does_fit(pattern, whole):
    if pattern == ("?", ()):
        return True
    if pattern[0] != whole[0] or len(pattern[1]) != len(whole[1]):
        return False
    return all(does_fit(left, right) for left, right in zip(pattern[1], whole[1]))


def cut_whole(whole, depth):
    if depth == 0:
        return ("_", ())
    return (whole[0], tuple(cut_whole(child, depth - 1) for child in whole[1]))


def table_number(simple, whole):
    numbers = tuple(table_number(simple, child) for child in whole[1])
    for word, row_numbers, number in simple[1]:
        if (word, row_numbers) == (whole[0], numbers):
            return number
    return simple[2]


def kind(book, tree):
    whole = nested(tree)
    entries = []
    for simple in book:
        if simple[0] == "depth":
            entries.append(flat(cut_whole(whole, simple[1])))
        elif simple[0] == "groups":
            entries.append(dict(simple[1]).get(whole[0], simple[2]))
        else:
            entries.append(table_number(simple, whole))
    return tuple(entries)


def place(tree, node):
    whole = nested(tree)
    piece = nodes(whole)[node]
    return (tree[:node], tree[node + len(piece):])


def fourth(book, one, two, node, third, at):
    """The fourth of an exchange, None if it is none."""
    if node >= len(two) or place(one, node) != place(two, node):
        return None
    first, second = nodes(nested(one))[node], nodes(nested(two))[node]
    if kind(book, first) != kind(book, second) or nodes(nested(third))[at] != first:
        return None
    return with_other(third, at, second)


class Lot:
    """The exchanges of a growing lot, by the definition, with what is told kept by place and by piece."""

    def __init__(self, book, trees):
        self.book = book
        self.trees = set(trees)

    def exchanges(self):
        """All (one, two, node, third, place, fourth)."""
        stands = {}
        holders = {}
        for tree in sorted(self.trees, key=key):
            for node, piece in enumerate(nodes(nested(tree))):
                stands.setdefault(place(tree, node), []).append((tree, node, piece))
                holders.setdefault(piece, []).append((tree, node))
        for row in stands.values():
            for one, node, piece in row:
                for two, _, other in row:
                    if kind(self.book, piece) != kind(self.book, other):
                        continue
                    for third, at in holders[piece]:
                        yield (one, two, node, third, at, with_other(third, at, other))

    def fourths(self):
        return {steps[5] for steps in self.exchanges()} - self.trees

    def closed_to(self, most):
        """The lot, grown by fourths of at most most symbols until there are no more."""
        while True:
            new = {tree for tree in self.fourths() if len(tree) <= most}
            if not new:
                return ordered(self.trees)
            self.trees |= new


class Classes:
    """Pieces of sentences in classes, which are a list of sets."""

    def __init__(self, book, sentences):
        self.book = book
        self.sentences = sentences
        self.pieces = all_pieces(sentences)
        self.classes = [{piece} for piece in self.pieces]

    def class_of(self, piece):
        return next(row for row in self.classes if piece in row)

    def joined(self, one, two):
        return two in self.class_of(one)

    def parts(self, piece):
        return [flat(child) for child in nested(piece)[1]]

    def ends(self, join):
        """What a join joins, or None if it may not be made."""
        word, one, two, k = join
        if one not in self.pieces or two not in self.pieces:
            return None
        if word == "root":
            both = one in self.sentences and two in self.sentences
            return (one, two) if both and kind(self.book, one) == kind(self.book, two) else None
        if one[0] != two[0]:
            return None
        pairs = list(zip(self.parts(one), self.parts(two)))
        if word == "up":
            return (one, two) if all(self.joined(*pair) for pair in pairs) else None
        if k >= len(pairs) or not self.joined(one, two):
            return None
        if not all(self.joined(*pair) for at, pair in enumerate(pairs) if at != k):
            return None
        return pairs[k] if kind(self.book, pairs[k][0]) == kind(self.book, pairs[k][1]) else None

    def fault(self, join):
        ends = self.ends(join)
        if ends is None:
            return join[0]
        return "joined" if self.joined(*ends) else None

    def make(self, join):
        one, two = (self.class_of(end) for end in self.ends(join))
        self.classes = [row for row in self.classes if row not in (one, two)] + [one | two]

    def possible(self):
        """All joins that can be made now."""
        joins = []
        for one in self.pieces:
            for two in self.pieces:
                joins += [("root", one, two, 0), ("up", one, two, 0)]
                joins += [("down", one, two, k) for k in range(one[0][1])]
        return [join for join in joins if self.fault(join) is None]

    def told(self):
        rows = [ordered(row) for row in self.classes]
        return tuple(sorted(rows, key=lambda row: key(row[0])))

    def makes(self, whole):
        """The numbers, among told(), of the classes of which a nested tree is."""
        below = [self.makes(child) for child in whole[1]]
        told = self.told()
        found = set()
        for number, row in enumerate(told):
            for piece in row:
                if piece[0] != (whole[0], len(whole[1])):
                    continue
                numbers = [next(k for k, other in enumerate(told) if part in other) for part in self.parts(piece)]
                if all(k in made for k, made in zip(numbers, below)):
                    found.add(number)
        return found

    def leads_to(self, tree):
        told = self.told()
        return any(set(told[k]) & set(self.sentences) for k in self.makes(nested(tree)))


def saturated(book, sentences, draw=None):
    """Joins, one after the other, behind which none can be made; drawn ones if draw is given."""
    classes = Classes(book, sentences)
    joins = []
    while True:
        possible = classes.possible()
        if not possible:
            return tuple(joins), classes
        join = possible[0] if draw is None else draw.one_of(possible)
        joins.append(join)
        classes.make(join)


def names_of(grammar, whole):
    """The names that make a nested tree."""
    below = [names_of(grammar, child) for child in whole[1]]
    found = set()
    for result, word, parts in grammar[2]:
        if word == whole[0] and len(parts) == len(below) and all(part in made for part, made in zip(parts, below)):
            found.add(result)
    return found


def least_by_names(grammar, trees):
    """The least tree of each name among trees, which are in order and all there are up to some size."""
    least = [None] * grammar[0]
    for tree in trees:
        for name in names_of(grammar, nested(tree)):
            if least[name] is None:
                least[name] = tree
    return tuple(least)


def live_names(grammar):
    """The names that make a tree and stand in the lot: those that one start, going down such rules, comes to."""
    made = set()
    for _ in range(grammar[0]):
        made |= {result for result, _, parts in grammar[2] if set(parts) <= made}
    live = set(grammar[1]) & made
    for _ in range(grammar[0]):
        for result, _, parts in grammar[2]:
            if result in live and set(parts) <= made:
                live |= set(parts)
    return live


def renamed(grammar, kept):
    """The grammar with these names alone, numbered in this sequence."""
    _, starts, rules = grammar
    number = {name: k for k, name in enumerate(kept)}
    rules = [(number[result], word, tuple(number[part] for part in parts)) for result, word, parts in rules
             if result in number and all(part in number for part in parts)]
    return (len(kept), tuple(sorted(number[start] for start in starts if start in number)), tuple(sorted(rules)))


def lot_among(grammar, trees):
    """Those of trees that the lot of grammar has."""
    return [tree for tree in trees if names_of(grammar, nested(tree)) & set(grammar[1])]


def chain_trees(book, given, chain):
    """The trees of the lines of a chain, each line read by its definition."""
    trees = []
    for line in chain:
        if line[0] == "given":
            assert line[1] in given
            trees.append(line[1])
            continue
        _, base, node, one, at, two = line
        assert max(base, one, two) < len(trees)
        told = fourth(book, trees[one], trees[two], at, trees[base], node)
        assert told is not None
        trees.append(told)
    return trees


def way(ends, one, two, barred=()):
    """The numbers of joins with these ends on a way from one piece to another, None if there is none."""
    if one == two:
        return ()
    for k, pair in enumerate(ends):
        if k in barred or one not in pair:
            continue
        other = pair[1] if pair[0] == one else pair[0]
        rest = way(ends, other, two, barred + (k,))
        if rest is not None:
            return (k,) + rest
    return None


def found_grammar(book, sentences, trees):
    """The found grammar, its names told by least trees among trees, which are in order."""
    _, classes = saturated(book, sentences)
    told = classes.told()
    number = {piece: k for k, row in enumerate(told) for piece in row}
    rules = {(number[piece], piece[0][0], tuple(number[part] for part in classes.parts(piece))) for piece in number}
    grammar = (len(told), tuple(sorted({number[tree] for tree in sentences})), tuple(sorted(rules)))
    least = least_by_names(grammar, trees)
    return renamed(grammar, sorted(range(len(told)), key=lambda name: key(least[name])))


def breach(book, grammar, trees):
    """The list of [36], step by step; least trees are looked for among trees, which are in order."""
    names, starts, rules = grammar
    live = live_names(grammar)
    for name in range(names):
        if name not in live:
            return ("trim", name)
    for k, rule in enumerate(rules):
        if any(rule[1:] == earlier[1:] for earlier in rules[:k]):
            return ("driven", k)
    least = least_by_names(grammar, trees)
    if None in least:
        return "too long"
    kinds = [kind(book, tree) for tree in least]
    for k, (result, word, parts) in enumerate(rules):
        whole = ((word, len(parts)),) + tuple(symbol for part in parts for symbol in least[part])
        if kind(book, whole) != kinds[result]:
            return ("kinded", k)
    for k, rule in enumerate(rules):
        if any(differ_in_one(rule, earlier, kinds) for earlier in rules[:k]):
            return ("turned", k)
    for k, start in enumerate(starts):
        if any(kinds[start] == kinds[earlier] for earlier in starts[:k]):
            return ("single", k)
    return None


def differ_in_one(rule, other, kinds):
    if rule[:2] != other[:2] or len(rule[2]) != len(other[2]):
        return False
    pairs = [(one, two) for one, two in zip(rule[2], other[2]) if one != two]
    return len(pairs) == 1 and kinds[pairs[0][0]] == kinds[pairs[0][1]]


def quick_grammar(joins, book, sentences):
    """The grammar of the classes that these joins leave, for sentences with many pieces."""
    classes = Classes(book, sentences)
    for join in joins:
        classes.make(join)
    number = {piece: k for k, row in enumerate(classes.classes) for piece in row}
    rules = {(number[piece], piece[0][0], tuple(number[part] for part in classes.parts(piece))) for piece in number}
    return (len(classes.classes), tuple(sorted({number[tree] for tree in sentences})), tuple(sorted(rules)))


def sizes_of(grammar):
    """How many symbols the least tree of each name has, None if it makes none."""
    sizes = [None] * grammar[0]
    for _ in range(grammar[0]):
        for result, _, parts in grammar[2]:
            if all(sizes[part] is not None for part in parts):
                size = 1 + sum(sizes[part] for part in parts)
                if sizes[result] is None or size < sizes[result]:
                    sizes[result] = size
    return sizes


def drawn_from(grammar, draw, most):
    """A drawn tree of the lot with at most most symbols, None if the drawn start has none."""
    sizes = sizes_of(grammar)

    def make(name, left):
        rules = [(word, parts) for result, word, parts in grammar[2] if result == name
                 and all(sizes[part] is not None for part in parts) and 1 + sum(sizes[part] for part in parts) <= left]
        word, parts = draw.one_of(rules)
        spare = left - 1 - sum(sizes[part] for part in parts)
        tree = ((word, len(parts)),)
        for part in parts:
            below = make(part, sizes[part] + spare)
            spare -= len(below) - sizes[part]
            tree += below
        return tree

    start = draw.one_of(grammar[1])
    return make(start, most) if sizes[start] is not None and sizes[start] <= most else None


def split(book, grammar):
    """The split grammar and the pairs for its names, kinds being told by some tree of each."""
    found = {}
    rules = set()
    while True:
        many = (len(found), len(rules))
        for result, word, parts in grammar[2]:
            for choice in itertools.product(*[[pair for pair in found if pair[0] == part] for part in parts]):
                tree = ((word, len(parts)),) + tuple(symbol for pair in choice for symbol in found[pair])
                pair = (result, kind(book, tree))
                rules.add((pair, word, choice))
                if pair not in found or key(tree) < key(found[pair]):
                    found[pair] = tree
        if (len(found), len(rules)) == many:
            break
    pairs = sorted(found)
    number = {pair: k for k, pair in enumerate(pairs)}
    rows = sorted((number[result], word, tuple(number[part] for part in parts)) for result, word, parts in rules)
    starts = tuple(number[pair] for pair in pairs if pair[0] in grammar[1])
    whole = (len(pairs), starts, tuple(rows))
    kept = sorted(live_names(whole))
    return renamed(whole, kept), tuple(pairs[k] for k in kept)


def used_rules(grammar, tree):
    """The numbers of the rules that tree uses, whatever start makes it, in whatever way."""
    used = set()

    def go(name, whole):
        for k, (result, word, parts) in enumerate(grammar[2]):
            if (result, word, len(parts)) == (name, whole[0], len(whole[1])):
                if all(part in names_of(grammar, child) for part, child in zip(parts, whole[1])):
                    used.add(k)
                    for part, child in zip(parts, whole[1]):
                        go(part, child)

    for start in grammar[1]:
        go(start, nested(tree))
    return used


def places_of_names(grammar, tree):
    """All pairs (name, place) such that a start makes tree with this name making the piece at this place."""
    found = set()
    whole = nested(tree)
    places = {path: place(tree, node) for node, path in enumerate(paths(whole))}

    def go(name, piece, path):
        found.add((name, places[path]))
        for result, word, parts in grammar[2]:
            if (result, word, len(parts)) == (name, piece[0], len(piece[1])):
                if all(part in names_of(grammar, child) for part, child in zip(parts, piece[1])):
                    for k, (part, child) in enumerate(zip(parts, piece[1])):
                        go(part, child, path + (k,))

    for start in grammar[1]:
        if start in names_of(grammar, whole):
            go(start, whole, ())
    return found


def does_fit_something(book, right, wrong):
    """Whether some closed lot has all of right and none of wrong."""
    _, classes = saturated(book, right)
    return not any(classes.leads_to(tree) for tree in wrong)


class PlainLearner:
    """What a learner holds; told what [10] tells, with a generator that asks and is sent the answers."""

    def __init__(self, book, known=None):
        self.book = book
        # Tells of a tree whether it is right, None if that has to be asked.
        self.known = known or (lambda tree: None)
        self.names = []
        self.rules = {}
        self.starts = []
        # How many told trees had a root with a known rule while their kind had a start.
        self.known_roots = 0

    def has_start_of(self, own):
        return any(self.names[start][0] == own for start in self.starts)

    def grammar(self):
        rules = sorted((result, word, parts) for (word, parts), result in self.rules.items())
        return (len(self.names), tuple(sorted(self.starts)), tuple(rules))

    def go_through(self, tree, whole, path):
        """Goes through the piece at path, behind its parts; returns its name."""
        parts = []
        for k, child in enumerate(whole[1]):
            parts.append((yield from self.go_through(tree, child, path + (k,))))
        key_of_rule = (whole[0], tuple(parts))
        if path == () and key_of_rule in self.rules and self.has_start_of(kind(self.book, tree)):
            self.known_roots += 1
        if key_of_rule not in self.rules:
            self.rules[key_of_rule] = yield from self.name_for(tree, whole, path)
        return self.rules[key_of_rule]

    def name_for(self, tree, whole, path):
        own = kind(self.book, flat(whole))
        if path == ():
            for start in self.starts:
                if self.names[start][0] == own:
                    return start
        for name, (name_kind, name_tree, name_path) in enumerate(self.names):
            if name_kind == own:
                asked = flat(replaced(nested(name_tree), name_path, whole))
                right = self.known(asked)
                if right is None:
                    right = yield asked
                if right:
                    return name
        self.names.append((own, tree, path))
        return len(self.names) - 1

    def hear(self, tree):
        """A generator over the questions about a told tree."""
        name = yield from self.go_through(tree, nested(tree), ())
        if not self.has_start_of(kind(self.book, tree)):
            self.starts.append(name)

    def hear_all(self, talk):
        """Goes through all told trees of a learner's talk, with its answers."""
        replies = iter([answer for word, _, answer in talk if word == "ask"])
        for word, _, tree in talk:
            if word == "propose" and tree is not None:
                questions = self.hear(tree)
                try:
                    next(questions)
                    while True:
                        questions.send(next(replies))
                except StopIteration:
                    pass
