"""Texts of chains and joins."""

from stoodthere.grammartexts import line_text
from stoodthere.treetexts import shown


def chain_line(line):
    """The text of one line of a chain."""
    if line[0] == "given":
        return line_text(["given", shown(line[1])])
    return line_text(line)


def join_line(join):
    """The text of one join."""
    word, tree, other, part = join
    first = [word, part] if word == "down" else [word]
    return line_text(first + [shown(tree), shown(other)])


def chain_text(chain):
    """Returns the text of chain, with a line for each of its lines."""
    return "\n".join([chain_line(line) for line in chain])


def joins_text(joins):
    """Returns the text of joins, with a line for each one."""
    return "\n".join([join_line(join) for join in joins])
