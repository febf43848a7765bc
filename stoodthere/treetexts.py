"""Texts of trees and patterns."""


def shown(tree):
    """Returns the text of tree, which may be a pattern, too."""
    text = []
    missing = []
    for word, many in tree:
        text.append(word)
        if many > 0:
            text.append("(")
            missing.append(many)
            continue
        while missing and missing[-1] == 1:
            text.append(")")
            missing.pop()
        if missing:
            text.append(",")
            missing[-1] -= 1
    return "".join(text)
