"""What the tests share: ways to make polynomials, and ways to ask for errors."""

import unittest

from ledgertrace.errors import TooMany
from ledgertrace.ledgers import Ledger
from ledgertrace.polys import ZERO, replaced
from ledgertrace.programs import program_text, width_of
from ledgertrace.running import run
from ledgertrace.tables import tagged

# The greatest number of 100 figures.
GREATEST = 10 ** 100 - 1

GOOD_CELLS = (-9999, -1, 0, 7, 9999, "a", "z", "abcdefgh", "col", "take")
BAD_CELLS = (
    -10000, 10000, 10 ** 50, "", "abcdefghi", "A", "aB", "a1", "1", "a b", " ", "-", "\u00e4", "\u0430", "a\n",
    None, True, False, (), (1,), [], ["a"], ("a",))
GOOD_TOKENS = ("a1", "z9", "b10", "c100", "a9999", "q1000")
BAD_TOKENS = (
    "a0", "a01", "a10000", "a00001", "a", "", "1", "1a", "aa1", "ab", "A1", "a1 ", " a1", "a-1", "a+1", "a1b", "a1.",
    "a\u00b2", "a\u0661", "\u00e41", "a1\n", None, True, 1, 11, (), ("a1",), ["a1"])
# What is neither a row nor a sequence of rows or of tokens, whatever else it is (but that
# the first two are sequences of nothing).
ANY_VALUES = (
    (), [], None, 0, 1, -1, True, False, "", "a", "a1", "ab", (None,), ((),), [[]], ("",), ("A",), (((),),), [[[1]]],
    (("a", None),), ((1, 2), 3), ("a1", ("b1",)), (1, True), ((1, 10000),), "take t", (("x", "y"), "z"))
BAD_ROWS = (
    (), [], (1,) * 7, ["a"] * 7, (10000,), (1, -10000), ("",), ("a", "abcdefghi"), (True,), (1, False), (None,),
    ((1,),), ([1],), "a", "abc", 5, None)


def deep(around, value, many=5000):
    """The value put so many times into what around makes of it: deeper than any call may go."""
    for _ in range(many):
        value = around(value)
    return value


def cell_order(cell):
    """Integers ahead of words, made in another way than the program's."""
    return (isinstance(cell, str), 0 if isinstance(cell, str) else cell, str(cell))


def cells_order(row):
    return [cell_order(cell) for cell in row]


class Case(unittest.TestCase):

    def raises(self, error, told, call, *args, **more):
        """The call raises just this error, with this argument in its one attribute."""
        with self.assertRaises(error) as caught:
            call(*args, **more)
        self.assertIs(type(caught.exception), error)
        self.assertEqual(list(vars(caught.exception).values()), [told])
        self.assertEqual([type(each) for each in vars(caught.exception).values()], [type(told)])


def named(letter, many):
    """The first so many tokens of this letter, rising as strings."""
    return tuple(sorted(f"{letter}{number}" for number in range(1, many + 1)))


def sum_of(tokens):
    """The polynomial that is the sum of these tokens."""
    return tuple((((token, 1),), 1) for token in sorted(tokens))


def powers(token, many, coefficient=1):
    """The polynomial 1 + token + token^2 + .. of so many terms."""
    return tuple((((token, at),) if at else (), coefficient) for at in range(many))


def product_of(tokens):
    """The polynomial that is the product of these tokens."""
    return ((tuple((token, 1) for token in sorted(tokens)), 1),)


def as_lists(value, depth=50):
    """The same value with a list in place of each tuple that is not too deep within."""
    if depth and isinstance(value, (tuple, list)):
        return [as_lists(part, depth - 1) for part in value]
    return value


def has_list(value):
    """Whether some part of a value is a list."""
    return isinstance(value, list) or isinstance(value, tuple) and any(has_list(part) for part in value)


def plain_sum(p, q):
    """The sum of two polynomials without any limit, made in another way than the program's."""
    terms = list(p) + list(q)
    return tuple((m, sum(c for n, c in terms if n == m)) for m in sorted({m for m, _ in terms}))


def plain_product(p, q):
    """The product of two polynomials without any limit, made in another way than the program's."""
    total = ()
    for one, c in p:
        for other, d in q:
            tokens = sorted({token for token, _ in one + other})
            exponents = [(t, sum(e for u, e in one + other if u == t)) for t in tokens]
            total = plain_sum(total, ((tuple(exponents), c * d),))
    return total


def any_poly(source, tokens=("a1", "a10", "a2", "b1"), terms=4, greatest=3):
    """Some polynomial; source is a random.Random."""
    found = {}
    for _ in range(source.randrange(terms + 1)):
        chosen = sorted(source.sample(tokens, source.randrange(len(tokens))))
        found[tuple((token, source.randint(1, greatest)) for token in chosen)] = source.randint(1, greatest)
    return tuple(sorted(found.items()))


def any_side(source, width):
    if source.random() < 0.6:
        return ("col", source.randrange(width))
    return ("val", source.choice((-9999, -2, 0, 1, 3, 9999, "a", "ab", "b")))


def any_program(source, widths, many):
    """Some program of at most so many nodes over tables of these widths, and its width."""
    kind = source.choice(("keep", "pick", "join", "both", "make")) if many > 1 else "take"
    if kind == "take":
        name = source.choice(sorted(widths))
        return ("take", name), widths[name]
    if kind in ("join", "both") and many > 2:
        one, width = any_program(source, widths, (many - 1) // 2)
        other, beside = any_program(source, widths, (many - 1) // 2)
        if kind == "both" and width == beside:
            return ("both", one, other), width
        if width + beside <= 6:
            pairs = [(source.randrange(width), source.randrange(beside)) for _ in range(source.randrange(3))]
            return ("join", one, other, tuple(pairs)), width + beside
    part, width = any_program(source, widths, many - 1)
    if kind == "keep":
        return ("keep", part, (any_side(source, width), source.choice("=<!"), any_side(source, width))), width
    if kind == "make" and width < 6:
        making = (source.choice(("sum", "less", "least", "most")), source.randrange(width), source.randrange(width))
        return ("make", part, making), width + 1
    columns = tuple(source.randrange(width) for _ in range(source.randint(1, 4)))
    return ("pick", part, columns), len(columns)


def any_table(source, width, tokens, most=5):
    """Some tagged table of this width; source is a random.Random."""
    found = {}
    for _ in range(source.randrange(most + 1)):
        row = tuple(source.choice((-2, 0, 1, 3, 9999, "a", "ab", "b")) for _ in range(width))
        found[row] = any_poly(source, tokens, 2, 2) or (((), 1),)
    return tuple((row, found[row]) for row in sorted(found, key=cells_order))


def plain_run(program, tables):
    """What a program makes, without any limit, in another way than the program's: a dict by row."""
    kind, found = program[0], {}
    if kind == "take":
        return dict(next(table for name, _, table in tables if name == program[1]))
    for row, p in plain_run(program[1], tables).items():
        if kind == "keep":
            left, sign, right = program[2]
            one, other = (cell_order(row[side[1]] if side[0] == "col" else side[1]) for side in (left, right))
            made = [(row, p)] if {"=": one == other, "<": one < other, "!": one != other}[sign] else []
        elif kind == "pick":
            made = [(tuple(row[at] for at in program[2]), p)]
        elif kind == "both":
            made = [(row, p)]
        elif kind == "make":
            made = [(row + (cell,), p) for cell in plain_cells(program[2][0], row[program[2][1]], row[program[2][2]])]
        else:
            made = [
                (row + beside, plain_product(p, q)) for beside, q in plain_run(program[2], tables).items()
                if all(row[i] == beside[j] for i, j in program[3])]
        for each, q in made:
            found[each] = plain_sum(found.get(each, ()), q)
    if kind == "both":
        for row, p in plain_run(program[2], tables).items():
            found[row] = plain_sum(found.get(row, ()), p)
    return found


def plain_cells(kind, one, other):
    """The cell that is made of two cells, or none, as a list."""
    if str in (type(one), type(other)):
        return []
    cell = {"sum": one + other, "less": one - other, "least": min(one, other), "most": max(one, other)}[kind]
    return [cell] if abs(cell) <= 9999 else []


def plain_table(found):
    """A dict by row as a tagged table."""
    return tuple((row, found[row]) for row in sorted(found, key=cells_order))


def simple(rows, letter="a"):
    """The table of these unlike rows, with the tokens of this letter from 1 on in their sequence."""
    found = {row: ((((f"{letter}{at}", 1),), 1),) for at, row in enumerate(rows, 1)}
    return plain_table(found)


def triple(name, table):
    """The table, which has rows, with its name and width."""
    return (name, len(table[0][0]), table)


MODULUS = 2 ** 61 - 1
WORDS_NO_LETTERS = ("", "A", "aB", "a1", "1", " ", "a ", " a", "a b", "\u00e4", "\u0430", "a\n", "-", "_", None, 0, 1, -1,
                    (), [], ("a",), ["a"])
# What no person and no artifact is called.
BAD_NAMES = WORDS_NO_LETTERS + ("abcdefghi", "a" * 100)


def plain_digest(text):
    """The digest, in another way than the program's: by powers."""
    total = 7 * pow(263, len(text), MODULUS)
    for place, sign in enumerate(reversed(text)):
        total += (ord(sign) + 1) * pow(263, place, MODULUS)
    return total % MODULUS


def plain_gone(row):
    return ("", plain_digest("row " + " ".join(str(cell) for cell in row)))


def any_rows(source, width, most=4):
    """Some rows, perhaps equal ones."""
    cells = (-2, 0, 1, 3, 9999, "a", "ab", "b")
    return tuple(tuple(source.choice(cells) for _ in range(width)) for _ in range(source.randint(1, most)))


def any_calls(source, letter="a", many=14, names=("p", "q", "r")):
    """Some calls that a ledger lets, and the ledger behind them."""
    ledger, calls, time = Ledger(letter), [], 0
    while len(calls) < many:
        time += source.choice((0, 0, 1, 5))
        person, name = source.choice(("ann", "bob", "eve")), source.choice(names)
        stands = [(each, version) for each in ledger.names() for version in range(ledger.versions(each))]
        left = [token for token, _, _, _ in ledger.tokens_left()]
        call = ("source", name, any_rows(source, source.randint(1, 3)), person, time)
        if stands and source.random() < 0.5:
            chosen = [(alias,) + source.choice(stands) for alias in ("s", "t", "u")[:source.randint(1, 3)]]
            widths = {alias: ledger.width(each, version) for alias, each, version in chosen}
            program, _ = any_program(source, widths, source.randint(1, 6))
            call = ("step", name, program, tuple(chosen), person, time)
        elif left and source.random() < 0.5:
            call = ("forget", source.choice(left), person, time)
        try:
            getattr(ledger, call[0])(*call[1:])
        except TooMany:
            continue
        calls.append(call)
    return calls, ledger


def told(letter, calls):
    """The ledger to which these calls were told."""
    ledger = Ledger(letter)
    for kind, *arguments in calls:
        getattr(ledger, kind)(*arguments)
    return ledger


class PlainLedger:
    """What a ledger tells behind these calls, told without any forgetting until all is made."""

    def __init__(self, letter, calls):
        self.tables, self.widths, self.makers, self.sources, self.rows, records = {}, {}, {}, {}, {}, []
        gone = [call[1] for call in calls if call[0] == "forget"]
        for kind, *call in calls:
            if kind == "forget":
                records.append((kind, int(call[0][1:]), call[1], call[2]))
                continue
            name, version = call[0], sum(1 for each, _ in self.tables if each == call[0])
            place = (name, version)
            self.makers[place] = tuple(call[-2:])
            if kind == "source":
                rows, first = tuple(tuple(row) for row in call[1]), len(self.rows) + 1
                tokens = [f"{letter}{first + at}" for at in range(len(rows))]
                self.rows.update((token, (name, version, row)) for token, row in zip(tokens, rows))
                self.tables[place], self.widths[place] = tagged(rows, tokens), len(rows[0])
                self.sources[place] = {place}
                kept = tuple(plain_gone(row) if token in gone else row for token, row in zip(tokens, rows))
                records.append((kind, name, version, len(rows[0]), kept, first) + tuple(call[-2:]))
                continue
            inputs = [(alias, self.widths[each, at], self.tables[each, at]) for alias, each, at in call[2]]
            self.tables[place] = run(call[1], inputs)
            self.widths[place] = width_of(call[1], [(alias, width) for alias, width, _ in inputs])
            self.sources[place] = {pair for _, each, at in call[2] for pair in self.sources[each, at]}
            records.append((kind, name, version, program_text(call[1]), call[2]) + tuple(call[-2:]))
        pairs = [(token, ZERO) for token in gone]
        for place, table in self.tables.items():
            made = ((row, replaced(p, pairs)) for row, p in table)
            self.tables[place] = tuple(pair for pair in made if pair[1])
        self.left = tuple((token,) + self.rows[token] for token in self.rows if token not in gone)
        self.records = tuple(records)
