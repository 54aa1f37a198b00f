"""The desk: a ledger to which lines of words are told, and that answers in words."""

from ledgertrace.blame import blames
from ledgertrace.cells import cells_text, is_letters, tells_integer, tells_number
from ledgertrace.chain import links
from ledgertrace.errors import BadLine, BadProgram, BadValue, NothingThere, TooMany
from ledgertrace.ledgers import Ledger
from ledgertrace.polys import poly_text
from ledgertrace.programs import read_program
from ledgertrace.tables import poly_at, rows_of, table_left
from ledgertrace.why import witnesses

MOST_FIGURES = 9
# The one printable sign that no text has.
PERCENT = 37


def _need(holds):
    """BadLine if something that a line needs does not hold."""
    if not holds:
        raise BadLine(0)


def _is_line(value):
    """Whether value is a text without line feeds."""
    if not isinstance(value, str) or not value.isascii() or not value.isprintable():
        return False
    return not any([ord(sign) == PERCENT for sign in value])


def _letters(word):
    _need(is_letters(word))
    return word


def _number(word):
    _need(tells_integer(word, MOST_FIGURES) and word[0] != "-")
    return int(word)


def _cell(word):
    if is_letters(word):
        return word
    _need(tells_integer(word, MOST_FIGURES))
    return int(word)


def _token(word):
    _need(is_letters(word[:1]) and tells_number(word[1:]))
    return word


def _row(words):
    _need(len(words) > 0)
    return [_cell(word) for word in words]


def _rows(words):
    """The rows, which are parted by strokes."""
    parts = [[]]
    for word in words:
        if word == "/":
            parts.append([])
        else:
            parts[-1].append(word)
    return [_row(part) for part in parts]


def _input(word):
    """The triple of ALIAS=ARTIFACT.VERSION."""
    alias, _, rest = word.partition("=")
    artifact, _, version = rest.partition(".")
    return (_letters(alias), _letters(artifact), _number(version))


def _maker(words):
    """NAME PERSON TIME, with which words begin."""
    _need(len(words) >= 3)
    return _letters(words[0]), _letters(words[1]), _number(words[2])


def _place(words):
    """NAME VERSION, with which words begin."""
    _need(len(words) >= 2)
    return _letters(words[0]), _number(words[1])


def _rows_text(table):
    return " / ".join([cells_text(row) for row in rows_of(table)])


def _source(ledger, words):
    name, person, time = _maker(words)
    return str(ledger.source(name, _rows(words[3:]), person, time))


def _step(ledger, words):
    _need(":" in words)
    at = words.index(":")
    # The text of a program may be any text, also the empty one: but the blank ahead of it must stand.
    _need(3 < at < len(words) - 1)
    name, person, time = _maker(words)
    inputs = [_input(word) for word in words[3:at]]
    program = read_program(" ".join(words[at + 1:]))
    return str(ledger.step(name, program, inputs, person, time))


def _forget(ledger, words):
    _need(len(words) == 3)
    token, person, time = _token(words[0]), _letters(words[1]), _number(words[2])
    ledger.forget(token, person, time)
    return "ok"


def _show(ledger, words):
    _need(len(words) == 2)
    name, version = _place(words)
    return _rows_text(ledger.table(name, version))


def _poly(ledger, words):
    """The polynomial of NAME VERSION ROW."""
    name, version = _place(words)
    row = _row(words[2:])
    return poly_at(ledger.table(name, version), row)


def _how(ledger, words):
    return poly_text(_poly(ledger, words))


def _why(ledger, words):
    sets = witnesses(_poly(ledger, words))
    if not sets:
        return "none"
    if sets == ((),):
        return "always"
    return " / ".join([" ".join(tokens) for tokens in sets])


def _blame(ledger, words):
    pairs = blames(_poly(ledger, words))
    if not pairs:
        return "none"
    return ", ".join([f"{token} {n}:{d}" for token, (n, d) in pairs])


def _without(ledger, words):
    name, version = _place(words)
    _need(len(words) > 2)
    gone = {_token(word): True for word in words[2:]}
    return _rows_text(table_left(ledger.table(name, version), gone))


def _link(ledger, words):
    _need(len(words) == 0)
    return str(links(ledger.records())[-1])


def _names(ledger, words):
    _need(len(words) == 0)
    return ", ".join([f"{name} {ledger.versions(name)}" for name in ledger.names()])


ANSWERS = {
    "source": _source, "step": _step, "forget": _forget, "show": _show, "how": _how, "why": _why, "blame": _blame,
    "without": _without, "link": _link, "names": _names,
}


class Desk:
    """A ledger, and the lines that were answered."""

    def __init__(self, name):
        self.ledger = Ledger(name)
        self.lines = []

    def tell(self, line):
        """The answer to a line; BadLine(0) if it is none."""
        _need(_is_line(line))
        words = line.split(" ")
        _need(words[0] in ANSWERS)
        answer = self.answered(words)
        self.lines.append(line + "\n")
        return answer

    def answered(self, words):
        """The answer to a line with these words, of which the first one tells what is asked."""
        answering = ANSWERS[words[0]]
        try:
            return answering(self.ledger, words[1:])
        except BadValue:
            return "no BadValue"
        except BadProgram:
            return "no BadProgram"
        except NothingThere:
            return "no NothingThere"
        except TooMany:
            return "no TooMany"

    def log(self):
        """The lines that were answered."""
        return "".join(self.lines)


def replayed(name, log):
    """The Desk to which the lines of a log were told."""
    desk = Desk(name)
    _need(isinstance(log, str))
    *lines, rest = log.split("\n")
    for at, line in enumerate(lines):
        try:
            desk.tell(line)
        except BadLine:
            raise BadLine(at) from None
    if rest != "":
        raise BadLine(len(lines))
    return desk
