"""Reading the texts of grammars."""

from stoodthere.basics import need
from stoodthere.errors import InvalidText
from stoodthere.fieldreaders import FieldReader, number_in, plain_number_in
from stoodthere.treekinds import MOST_PARTS, SILENT, is_word


class RuleReader(FieldReader):
    """Reads the fields of a rule's line, one after the other."""

    def read_word(self):
        """Reads a field that is a word."""
        word = self.seen()
        if not is_word(word):
            self.refuse()
        self.at += 1
        return word

    def read_rule(self, names):
        """Reads the whole line; returns the rule, with some of so many names."""
        result = self.read_number(names - 1)
        self.read_sign("=")
        word = self.read_word()
        parts = []
        while not self.is_at_end() and word != SILENT and len(parts) < MOST_PARTS:
            parts.append(self.read_number(names - 1))
        self.read_end()
        return (result, word, tuple(parts))


def read_names(text):
    """How many names line 0 tells."""
    reader = FieldReader(0, text)
    reader.read_sign("names")
    names = plain_number_in(reader.seen())
    if names is None:
        reader.refuse()
    reader.at += 1
    reader.read_end()
    return names


def read_starts(text, names):
    """The starts that line 1 tells, some of so many names."""
    reader = FieldReader(1, text)
    reader.read_sign("start")
    starts = []
    while not reader.is_at_end():
        start = number_in(reader.seen(), names - 1)
        if start is None or (starts and start <= starts[-1]):
            reader.refuse()
        reader.at += 1
        starts.append(start)
    return tuple(starts)


def read_grammar(text):
    """Returns the grammar with this text, in which the rules may stand in any sequence."""
    need(isinstance(text, str), "text")
    lines = text.split("\n")
    names = read_names(lines[0])
    if len(lines) == 1:
        raise InvalidText(1, 0)
    starts = read_starts(lines[1], names)
    rules = {}
    for line in range(2, len(lines)):
        rule = RuleReader(line, lines[line]).read_rule(names)
        if rule in rules:
            raise InvalidText(line, 0)
        rules[rule] = True
    return (names, starts, tuple(sorted(rules)))
