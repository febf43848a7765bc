"""Texts of books."""


def row_text(row):
    """The field of a row of groups, or of a table."""
    if len(row) == 2:
        return f"{row[0]}={row[1]}"
    numbers = ",".join([str(number) for number in row[1]])
    return f"{row[0]}({numbers})={row[2]}"


def simple_text(simple):
    """The text of a simple one."""
    if simple[0] == "depth":
        return f"depth {simple[1]}"
    word, rows, other = simple
    return " ".join([word] + [row_text(row) for row in rows] + ["else", str(other)])


def book_text(book):
    """Returns the text of book."""
    return " + ".join([simple_text(simple) for simple in book])
