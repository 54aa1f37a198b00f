"""What cells, rows, tokens and numbers are, and the order of cells and rows."""

MOST_CELLS = 6
MOST_LETTERS = 8
GREATEST_CELL = 9999
MOST_TOKEN_FIGURES = 4


def is_sequence(value):
    """Whether value is a list or a tuple."""
    return isinstance(value, (list, tuple))


def is_integer(value):
    """Whether value is an integer: True and False are none."""
    return isinstance(value, int) and not isinstance(value, bool)


def is_number(value):
    """Whether value is an integer from 0 on."""
    return is_integer(value) and value >= 0


def is_letters(value):
    """Whether value is a string of small letters, at least one."""
    return isinstance(value, str) and value != "" and all(["a" <= sign <= "z" for sign in value])


def is_word(value):
    """Whether value is a word of small letters."""
    return is_letters(value) and len(value) <= MOST_LETTERS


def is_cell(value):
    """Whether value is a cell: a word, or an integer that is not too great."""
    if is_integer(value):
        return -GREATEST_CELL <= value <= GREATEST_CELL
    return is_word(value)


def is_row(value):
    """Whether value is a row of cells."""
    return is_sequence(value) and 1 <= len(value) <= MOST_CELLS and all([is_cell(cell) for cell in value])


def are_rows(value):
    """Whether value is a sequence of rows of one width."""
    if not is_sequence(value) or not all([is_row(row) for row in value]):
        return False
    return all([len(row) == len(value[0]) for row in value])


def is_token(value):
    """Whether value is a token: a small letter and figures."""
    if not isinstance(value, str) or len(value) > 1 + MOST_TOKEN_FIGURES:
        return False
    return "a" <= value[:1] <= "z" and tells_number(value[1:])


def tells_number(word):
    """Whether word is the figures of a number from 1 on."""
    return word.isascii() and word.isdigit() and word[0] != "0"


def tells_integer(word, most):
    """Whether word is the figures of an integer, at most so many of them."""
    figures = word[1:] if word[:1] == "-" else word
    return word == "0" or len(figures) <= most and tells_number(figures)


def cells_text(row):
    """The cells of a row with blanks between."""
    return " ".join([str(cell) for cell in row])


def cell_order(cell):
    """What cells are ordered by: integers stand ahead of words."""
    if isinstance(cell, str):
        return (1, cell)
    return (0, cell)


def row_order(row):
    """What rows of one width are ordered by."""
    return tuple([cell_order(cell) for cell in row])


def rising(found):
    """The pairs (row, value) of a dict, by rows."""
    return tuple([(row, found[row]) for row in sorted(found, key=row_order)])
