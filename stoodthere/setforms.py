"""Driven grammars with the lots of any grammars: their names are sets of names."""

from stoodthere.fairness import making_names
from stoodthere.trims import plain_of


class SetSearch:
    """Finds the set of each tree that some name makes; these sets are numbered as they are found."""

    def __init__(self, grammar):
        made = making_names(grammar)
        # For each symbol the pairs (result, parts) of its rules that make a tree.
        self.rows = {}
        for result, word, parts in grammar[2]:
            if all([part in made for part in parts]):
                self.rows.setdefault((word, len(parts)), []).append((result, parts))
        # For each set a dict of its names, and by its names its number; for each name the numbers of its sets.
        self.name_sets = []
        self.numbers_by_names = {}
        self.sets_with = {name: [] for name in made}
        self.rules = []

    def note(self, word, numbers, rows):
        """Notes the set that comes by these rows of a symbol, for parts with the sets of these numbers."""
        names = tuple(sorted(set([result for result, _ in rows])))
        number = self.numbers_by_names.setdefault(names, len(self.name_sets))
        if number == len(self.name_sets):
            self.name_sets.append({name: True for name in names})
            for name in names:
                self.sets_with[name].append(number)
        self.rules.append((number, word, numbers))

    def numbers_at(self, rows, at, last):
        """The numbers, below last, of the sets that this part may have by some of these rows."""
        names = sorted(set([parts[at] for _, parts in rows]))
        return sorted(set([number for name in names for number in self.sets_with[name] if number < last]))

    def choices_with(self, rows, many, first, newest):
        """Pairs (numbers, rows): sets for the parts, the newest one first at this one, and the rows that they leave."""
        begun = [row for row in rows if row[1][first] in self.name_sets[newest]]
        choices = [((), begun)] if begun else []
        for at in range(many):
            last = newest if at < first else newest + 1
            longer = []
            for numbers, kept in choices:
                candidates = [newest] if at == first else self.numbers_at(kept, at, last)
                for number in candidates:
                    left = [row for row in kept if row[1][at] in self.name_sets[number]]
                    longer.append((numbers + (number,), left))
            choices = longer
        return choices

    def note_with(self, newest):
        """Notes what comes of all choices of sets for parts with this one, the newest one, among them."""
        for (word, many), rows in self.rows.items():
            for first in range(many):
                for numbers, left in self.choices_with(rows, many, first, newest):
                    self.note(word, numbers, left)

    def run(self):
        """Finds all sets."""
        for (word, many), rows in self.rows.items():
            if many == 0:
                self.note(word, (), rows)
        newest = 0
        while newest < len(self.name_sets):
            self.note_with(newest)
            newest += 1


def by_sets(grammar):
    """Returns the plain grammar with the same lot that has a name for each set of a piece of a tree of the lot."""
    search = SetSearch(grammar)
    search.run()
    starts = []
    for number, names in enumerate(search.name_sets):
        if any([start in names for start in grammar[1]]):
            starts.append(number)
    return plain_of((len(search.name_sets), tuple(starts), tuple(sorted(search.rules))))
