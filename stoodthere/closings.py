"""The form of the closure of a lot."""

from stoodthere.basics import need
from stoodthere.grammarkinds import is_grammar
from stoodthere.splits import split_by
from stoodthere.trims import plain_of


class NameJoining:
    """The names of split grammars, joined until what is left is fair.

    All trees of such a name are of one kind and stand at one place, so in a closed lot they stand
    at all the same places; what joins names here, by the rules of joins, keeps that.
    """

    def __init__(self):
        self.kind_numbers = {}
        # For each name the number of its kind, and the name that stands for all those joined with it.
        self.kind_row = []
        self.leaders = []
        self.tops = []
        self.rules = []
        self.is_changed = True

    def add_split(self, split, pairs):
        """Adds a split grammar with the pairs for its names."""
        first = len(self.leaders)
        for _, kind in pairs:
            self.kind_row.append(self.kind_numbers.setdefault(kind, len(self.kind_numbers)))
            self.leaders.append(len(self.leaders))
        self.tops.extend([first + start for start in split[1]])
        for result, word, parts in split[2]:
            self.rules.append((first + result, word, tuple([first + part for part in parts])))

    def leader_of(self, name):
        """The name that stands for all names joined with this one."""
        while self.leaders[name] != name:
            name = self.leaders[name]
        return name

    def join_by(self, pairs):
        """Joins all names that are in pairs (key, name) with the same key."""
        known = {}
        for key, name in pairs:
            one, two = self.leader_of(known.setdefault(key, name)), self.leader_of(name)
            if one != two:
                self.leaders[max(one, two)] = min(one, two)
                self.is_changed = True

    def lead_rules(self):
        """Puts, in all rules, names that stand for those joined with them."""
        rules = {}
        for result, word, parts in self.rules:
            rules[(self.leader_of(result), word, tuple([self.leader_of(part) for part in parts]))] = True
        self.rules = list(rules)

    def keyed_parts(self):
        """Pairs of a key and a name: parts of rules that differ in them alone have one key if of one kind."""
        pairs = []
        for result, word, parts in self.rules:
            for at, part in enumerate(parts):
                pairs.append(((result, word, parts[:at], parts[at + 1:], self.kind_row[part]), part))
        return pairs

    def join_all(self):
        """Joins names until the rules and starts are those of a fair grammar."""
        self.join_by([(self.kind_row[top], top) for top in self.tops])
        while self.is_changed:
            self.is_changed = False
            self.lead_rules()
            self.join_by([((word, parts), result) for result, word, parts in self.rules])
            self.join_by(self.keyed_parts())

    def form(self):
        """The plain grammar of what is joined."""
        starts = sorted(set([self.leader_of(top) for top in self.tops]))
        return plain_of((len(self.leaders), tuple(starts), tuple(sorted(self.rules))))


def closure_form(book, grammars):
    """The form of the closure of all that the lots of these grammars have."""
    joining = NameJoining()
    for grammar in grammars:
        split, pairs = split_by(book, grammar)
        joining.add_split(split, pairs)
    joining.join_all()
    return joining.form()


def closing(book, grammar):
    """Returns the form of the closure of the lot of grammar."""
    need(is_grammar(grammar), "grammar")
    return closure_form(book, [grammar])
