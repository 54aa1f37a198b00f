"""The chain: digests of texts, the texts of records, and the links that bind each record to the elder ones."""

from ledgertrace.cells import cells_text, is_integer, is_sequence
from ledgertrace.common import BEYOND_FIGURES, MOST_FIGURES

MODULUS = 2305843009213693951


def digest(text):
    """The digest of a text."""
    made = 7
    for sign in text:
        made = (made * 263 + ord(sign) + 1) % MODULUS
    return made


def is_gone(row):
    """Whether a row of a record tells only the digest of what stood there."""
    return row[0] == ""


def tells_gone(value):
    """Whether value has the form of what a record tells of a row that is forgotten."""
    if not is_sequence(value) or len(value) != 2 or value[0] != "":
        return False
    return is_integer(value[1]) and 0 <= value[1] < MODULUS


def gone_row(row):
    """What a record tells of a row as soon as it is forgotten."""
    if is_gone(row):
        return tuple(row)
    return ("", digest(_row_text(row)))


def _row_text(row):
    """The line that tells a row, without its line feed."""
    if is_gone(row):
        return "gone " + str(row[1])
    return "row " + cells_text(row)


def record_text(record):
    """The text of a record."""
    return "".join([line + "\n" for line in _lines_of(record)])


def _lines_of(record):
    time = _number_text(record[-1])
    if record[0] == "source":
        _, name, version, width, rows, first, person, _ = record
        return [f"source {name} {version} {width} {first} {person} {time}"] + [_row_text(row) for row in rows]
    if record[0] == "step":
        _, name, version, text, inputs, person, _ = record
        lines = [f"from {alias} {artifact} {number}" for alias, artifact, number in inputs]
        return [f"step {name} {version} {person} {time}"] + lines + ["by " + text]
    _, number, person, _ = record
    return [f"forget {number} {person} {time}"]


def _number_text(number):
    """The figures of a number, however great: Python itself refuses to tell very many."""
    words = []
    while number >= BEYOND_FIGURES:
        number, rest = divmod(number, BEYOND_FIGURES)
        words.append(str(rest).zfill(MOST_FIGURES))
    return "".join(reversed(words + [str(number)]))


def links(records):
    """The digests that bind each record to the elder ones."""
    made = [digest("L")]
    for record in records:
        made.append(digest("C" + str(made[-1]) + " " + str(digest(record_text(_sealed(record))))))
    return tuple(made)


def _sealed(record):
    """The record as if each of its rows were forgotten."""
    if record[0] != "source":
        return record
    _, name, version, width, rows, first, person, time = record
    return ("source", name, version, width, tuple([gone_row(row) for row in rows]), first, person, time)


def told_otherwise(records, others):
    """Where two histories part: None if one is the beginning of the other one."""
    for at, (one, other) in enumerate(zip(records, others)):
        if not _alike(one, other):
            if links(records[:at + 1])[-1] == links(others[:at + 1])[-1]:
                return ("collision", at)
            return ("unlike", at)
    return None


def _alike(one, other):
    """Whether two records tell the same, but that a row is gone in one of them perhaps."""
    if one[0] != "source" or other[0] != "source":
        return _frozen(one) == _frozen(other)
    if _frozen(one[:4] + one[5:]) != _frozen(other[:4] + other[5:]) or len(one[4]) != len(other[4]):
        return False
    return all([_alike_rows(row, beside) for row, beside in zip(one[4], other[4])])


def _frozen(record):
    """The record, which may consist of lists, as tuples."""
    return tuple([tuple([tuple(each) for each in part]) if is_sequence(part) else part for part in record])


def _alike_rows(row, beside):
    """Whether two rows are the same, or one is gone and has the other one's digest."""
    if is_gone(row) == is_gone(beside):
        return tuple(row) == tuple(beside)
    return gone_row(row) == gone_row(beside)
