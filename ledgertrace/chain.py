"""The chain: digests of texts, the texts of records, and the links that bind each record to the elder ones."""

from ledgertrace.cells import cells_text, is_integer, is_sequence
from ledgertrace.common import BEYOND_FIGURES, MOST_FIGURES

MODULUS = 2305843009213693951


def digest(text):
    """The digest of a text."""
    made = 7
    for sign in text:
        made = (made * 263 + ord(sign) + 1) % MODULUS
    return made


def is_gone(row):
    """Whether a row of a record tells only the digest of what stood there."""
    return row[0] == ""


def gone_row(row):
    """What a record tells of a row that is forgotten."""
    if is_gone(row):
        return tuple(row)
    return ("", digest(_row_text(row)))


def tells_gone(value):
    """Whether value has the form of what a record tells of a row that is forgotten."""
    if not is_sequence(value) or len(value) != 2 or value[0] != "":
        return False
    return is_integer(value[1]) and 0 <= value[1] < MODULUS


def _row_text(row):
    """The line that tells a row, without its line feed."""
    if is_gone(row):
        return "gone " + str(row[1])
    return "row " + cells_text(row)
