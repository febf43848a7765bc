"""Which values are words, symbols, trees, patterns and sentences."""

from stoodthere.basics import ascends, is_number, is_number_to

LETTERS = "abcdefghijklmnopqrstuvwxyz"
WORD_SIGNS = "abcdefghijklmnopqrstuvwxyz0123456789-"
LONGEST_WORD = 16
MOST_PARTS = 4
SILENT = "."
HOLE = ("?", 0)


def is_word(thing):
    """Whether thing is a word."""
    if not isinstance(thing, str) or not 1 <= len(thing) <= LONGEST_WORD:
        return False
    if thing == SILENT:
        return True
    return thing[0] in LETTERS and all([sign in WORD_SIGNS for sign in thing])


def is_symbol(thing):
    """Whether thing is a symbol."""
    if not isinstance(thing, tuple) or len(thing) != 2:
        return False
    word, many = thing
    if not is_word(word) or not is_number_to(many, MOST_PARTS):
        return False
    return word != SILENT or many == 0


def is_hole(thing):
    """Whether thing is the entry of a hole."""
    # False equals 0, but an entry with it is no hole.
    return thing == HOLE and is_number(thing[1])


def fault_of(thing, may_have_holes):
    """What is wrong with thing as a tree, or as a pattern: None, or a word and a number."""
    if not isinstance(thing, tuple) or not thing:
        return ("shape", -1)
    missing = 1
    for k, entry in enumerate(thing):
        if missing == 0:
            return ("behind", k)
        if may_have_holes and is_hole(entry):
            missing -= 1
        elif is_symbol(entry):
            missing += entry[1] - 1
        else:
            return ("symbol", k)
    return None if missing == 0 else ("end", len(thing))


def is_tree(thing):
    """Whether thing is a tree."""
    return fault_of(thing, False) is None


def is_pattern(thing):
    """Whether thing is a pattern."""
    return fault_of(thing, True) is None


def are_trees(thing):
    """Whether thing is a tuple of trees, of which some may be equal."""
    return isinstance(thing, tuple) and all([is_tree(tree) for tree in thing])


def is_trees(thing):
    """Whether thing is sentences: a tuple of different trees."""
    return are_trees(thing) and len(set(thing)) == len(thing)


def are_symbols(thing):
    """Whether thing is an ascending tuple of symbols."""
    return isinstance(thing, tuple) and all([is_symbol(entry) for entry in thing]) and ascends(thing)
