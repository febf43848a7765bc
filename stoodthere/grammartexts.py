"""Texts of grammars."""


def line_text(fields):
    """The line with these fields, words and numbers."""
    return " ".join([str(field) for field in fields])


def grammar_text(grammar):
    """Returns the text of grammar."""
    names, starts, rules = grammar
    lines = [line_text(["names", names]), line_text(["start"] + list(starts))]
    for result, word, parts in rules:
        lines.append(line_text([result, "=", word] + list(parts)))
    return "\n".join(lines)
