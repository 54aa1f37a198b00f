"""Folds: the rows of a table in groups, each with one value, and what that value rests on."""

from ledgertrace.cells import MOST_CELLS, cell_order, is_sequence, rising
from ledgertrace.errors import BadValue, NothingThere
from ledgertrace.polys import tokens_of
from ledgertrace.programs import is_column
from ledgertrace.tables import table_left
from ledgertrace.terms import frozen

KINDS = ("count", "sum", "least", "most")
MOST_KEYS = 5


def fold(table, keys, kind, column):
    """The groups (key, value, members) of the rows with equal cells in the columns of keys."""
    width = len(table[0][0]) if table else MOST_CELLS
    if not _are_keys(keys, width):
        raise BadValue(1)
    if kind not in KINDS:
        raise BadValue(2)
    if kind != "count" and not is_column(column, width):
        raise BadValue(3)
    members = {}
    for row, p in table:
        members.setdefault(tuple([row[at] for at in keys]), []).append((tuple(row), frozen(p)))
    return _groups(rising(members), kind, column)


def fold_whatif(groups, kind, column, gone):
    """The groups if these tokens were gone."""
    held = {token: True for token in gone}
    left = [(tuple(key), table_left(members, held)) for key, _, members in groups]
    return _groups([pair for pair in left if pair[1]], kind, column)


def swing(groups, kind, column, key):
    """For each token of the group with this key, its value without it; None if the group goes."""
    for each, _, members in groups:
        if is_sequence(key) and tuple(each) == tuple(key):
            return tuple([(token, _value_without(members, kind, column, token)) for token in _tokens_in(members)])
    raise NothingThere("key")


def _are_keys(value, width):
    """Whether value is a sequence of numbers of columns, not too many."""
    if not is_sequence(value) or len(value) > MOST_KEYS:
        return False
    return all([is_column(column, width) for column in value])


def _groups(pairs, kind, column):
    """The groups of the pairs (key, members)."""
    return tuple([(key, _value(members, kind, column), tuple(members)) for key, members in pairs])


def _value(members, kind, column):
    """What at least one member comes to."""
    if kind == "count":
        return len(members)
    cells = [row[column] for row, _ in members]
    if kind == "sum":
        return sum([cell for cell in cells if not isinstance(cell, str)])
    if kind == "least":
        return min(cells, key=cell_order)
    return max(cells, key=cell_order)


def _tokens_in(members):
    """The tokens that stand in the polynomials of the members, rising."""
    return sorted({token for _, p in members for token in tokens_of(p)})


def _value_without(members, kind, column, token):
    left = table_left(members, {token: True})
    if not left:
        return None
    return _value(left, kind, column)
