"""What if: tables and what programs make of them, if source rows went or came."""

from ledgertrace.cells import is_row, is_sequence, is_token, rising, row_order
from ledgertrace.common import check_rows
from ledgertrace.errors import BadValue
from ledgertrace.polys import ZERO, tokens_of
from ledgertrace.running import run
from ledgertrace.tables import table_left
from ledgertrace.terms import as_terms, check_figures, check_terms


def changed_tables(tables, changes):
    """The tables behind all changes."""
    gone, news = read_changes(tables, changes, 1)
    return tables_behind(tables, gone, news)


def whatif(program, tables, changes):
    """The tagged table of the program behind the changes."""
    return _ahead_and_behind(program, tables, changes)[1]


def moved(program, tables, changes):
    """The rows whose polynomial is another one behind the changes, each with both polynomials."""
    ahead, behind = [dict(table) for table in _ahead_and_behind(program, tables, changes)]
    rows = sorted({**ahead, **behind}, key=row_order)
    found = [(row, ahead.get(row, ZERO), behind.get(row, ZERO)) for row in rows]
    return tuple([triple for triple in found if triple[1] != triple[2]])


def _ahead_and_behind(program, tables, changes):
    ahead = run(program, tables)
    gone, news = read_changes(tables, changes, 2)
    return ahead, run(program, tables_behind(tables, gone, news))


def read_changes(tables, changes, at):
    """What the changes come to: a dict of the tokens that go, a list of triples (name, row, token).

    BadValue(at) if they are no changes of these tables.
    """
    if not is_sequence(changes):
        raise BadValue(at)
    widths = {name: width for name, width, _ in tables}
    # A token that went is still known: it does not come back.
    known = {token: True for _, _, table in tables for _, p in table for token in tokens_of(p)}
    gone = {}
    news = []
    for change in changes:
        if _goes(change, known, gone):
            gone[change[1]] = True
        elif _comes(change, widths, known):
            known[change[3]] = True
            news.append((change[1], tuple(change[2]), change[3]))
        else:
            raise BadValue(at)
    return gone, news


def _goes(change, known, gone):
    """Whether change is a token that goes, and that has not gone yet."""
    if not is_sequence(change) or len(change) != 2 or change[0] != "gone":
        return False
    return isinstance(change[1], str) and change[1] in known and change[1] not in gone


def _comes(change, widths, known):
    """Whether change is a new row for one of the tables, with a token that was never there."""
    if not is_sequence(change) or len(change) != 4 or change[0] != "new":
        return False
    _, name, row, token = change
    if not isinstance(name, str) or name not in widths or not is_row(row) or not is_token(token):
        return False
    return len(row) == widths[name] and token not in known


def tables_behind(tables, gone, news):
    """The tables without the tokens that are gone, with the new rows; TooMany as they are then."""
    # No token comes back, so it does not matter which change stood ahead of which one.
    made = tuple([
        (name, width, _changed(table, gone, [(row, token) for other, row, token in news if other == name]))
        for name, width, table in tables
    ])
    for _, _, table in made:
        check_rows(table)
    polys = [p for _, _, table in made for _, p in table]
    for p in polys:
        check_terms(p)
    for p in polys:
        check_figures(p)
    return made


def _changed(table, gone, news):
    """The table without the tokens that are gone, with these pairs (row, token)."""
    found = {row: dict(p) for row, p in table_left(table, gone)}
    for row, token in news:
        if token not in gone:
            found.setdefault(row, {})[((token, 1),)] = 1
    return rising({row: as_terms(terms) for row, terms in found.items()})
