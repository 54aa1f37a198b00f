"""Tagged tables: rows, each with the polynomial that tells how it came about."""

from ledgertrace.cells import are_rows, is_sequence, is_token, rising
from ledgertrace.common import check_rows
from ledgertrace.errors import BadValue
from ledgertrace.measures import valued
from ledgertrace.polys import ZERO
from ledgertrace.terms import check_terms, frozen, left_of


def tagged(rows, tokens):
    """The table of these rows, each with its token; equal rows become one."""
    if not are_rows(rows):
        raise BadValue(0)
    if not _are_tokens(tokens) or len(tokens) != len(rows):
        raise BadValue(1)
    counts = {}
    for row, token in zip(rows, tokens):
        many = counts.setdefault(tuple(row), {})
        many[token] = many.get(token, 0) + 1
    check_rows(counts)
    for many in counts.values():
        check_terms(many)
    return rising({row: _sum_of(counts[row]) for row in counts})


def rows_of(table):
    """The rows of a table."""
    return tuple([tuple(row) for row, _ in table])


def poly_at(table, row):
    """The polynomial of a row; ZERO if the table lacks it."""
    wanted = tuple(row)
    for each, p in table:
        if tuple(each) == wanted:
            return frozen(p)
    return ZERO


def table_valued(table, measure, given):
    """The rows of a table, each with the value of its polynomial."""
    return tuple([(tuple(row), valued(p, measure, given)) for row, p in table])


def table_left(table, gone):
    """The table without the tokens in the dict gone: rows that become ZERO go."""
    made = [(tuple(row), left_of(frozen(p), gone)) for row, p in table]
    return tuple([pair for pair in made if pair[1]])


def _are_tokens(value):
    return is_sequence(value) and all([is_token(token) for token in value])


def _sum_of(counts):
    """The sum of tokens, by how often each of them stands in it."""
    return tuple([(((token, 1),), counts[token]) for token in sorted(counts)])
