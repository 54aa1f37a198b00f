"""What one node of a program makes of its parts, whatever the values of the rows are.

Tables are lists of pairs (row, value) in any sequence. The object values tells what can be
done with values, as PolyValues and MeasuredValues of running do.
"""

from ledgertrace.cells import cell_order, is_cell
from ledgertrace.common import MOST_ROWS, check_rows
from ledgertrace.errors import TooMany


def taken(values, table):
    """What a take makes of the table that it takes."""
    pairs = [(tuple(row), values.kept(value)) for row, value in table]
    made = [pair for pair in pairs if not values.is_zero(pair[1])]
    check_rows(made)
    values.check(made)
    return made


def made_of(values, node, parts):
    """What another node makes of its parts."""
    kind = node[0]
    if kind == "keep":
        return [pair for pair in parts[0] if _stands(node[2], pair[0])]
    if kind == "make":
        return _widened(parts[0], node[2])
    if kind == "pick":
        return _added(values, [(tuple([row[at] for at in node[2]]), value) for row, value in parts[0]])
    if kind == "both":
        return _added(values, parts[0] + parts[1])
    return _joined(values, parts[0], parts[1], node[3])


def _stands(comparison, row):
    """Whether left stands so to right in this row."""
    left, sign, right = comparison
    one = cell_order(_side(left, row))
    other = cell_order(_side(right, row))
    if sign == "<":
        return one < other
    return (one == other) == (sign == "=")


def _side(side, row):
    kind, value = side
    if kind == "col":
        return row[value]
    return value


def _widened(part, making):
    """The rows with one cell more, but those for which there is none."""
    kind, i, j = making
    made = []
    for row, value in part:
        cell = _new_cell(kind, row[i], row[j])
        if is_cell(cell):
            made.append((row + (cell,), value))
    return made


def _new_cell(kind, one, other):
    """The new cell of these two; what is no cell if there is none."""
    if isinstance(one, str) or isinstance(other, str):
        return None
    if kind == "sum":
        return one + other
    if kind == "less":
        return one - other
    if kind == "least":
        return min(one, other)
    return max(one, other)


def _added(values, pairs):
    """The pairs with each row once: its values are added up."""
    found = {}
    for row, value in pairs:
        found.setdefault(row, []).append(value)
    check_rows(found)
    made = [(row, values.total(many)) for row, many in found.items()]
    values.check(made)
    return made


def _joined(values, one, other, pairs):
    """Each row of one beside each row of other that has equal cells in these pairs of columns."""
    by_cells = {}
    for row, value in other:
        by_cells.setdefault(tuple([row[pair[1]] for pair in pairs]), []).append((row, value))
    met = []
    for row, value in one:
        for beside, factor in by_cells.get(tuple([row[pair[0]] for pair in pairs]), []):
            if values.meet(value, factor):
                met.append((row + beside, value, factor))
        # Rows are counted ahead of the products, which may be dear.
        if len(met) > MOST_ROWS:
            raise TooMany("rows")
    made = [(row, values.product_of(value, factor)) for row, value, factor in met]
    values.check(made)
    return made
