"""What the tests share: ways to make polynomials, and ways to ask for errors."""

import unittest

# The greatest number of 100 figures.
GREATEST = 10 ** 100 - 1

GOOD_CELLS = (-9999, -1, 0, 7, 9999, "a", "z", "abcdefgh", "col", "take")
BAD_CELLS = (
    -10000, 10000, 10 ** 50, "", "abcdefghi", "A", "aB", "a1", "1", "a b", " ", "-", "\u00e4", "\u0430", "a\n",
    None, True, False, (), (1,), [], ["a"], ("a",))
GOOD_TOKENS = ("a1", "z9", "b10", "c100", "a9999", "q1000")
BAD_TOKENS = (
    "a0", "a01", "a10000", "a00001", "a", "", "1", "1a", "aa1", "ab", "A1", "a1 ", " a1", "a-1", "a+1", "a1b", "a1.",
    "a\u00b2", "a\u0661", "\u00e41", "a1\n", None, True, 1, 11, (), ("a1",), ["a1"])
# What is neither a row nor a sequence of rows or of tokens, whatever else it is (but that
# the first two are sequences of nothing).
ANY_VALUES = (
    (), [], None, 0, 1, -1, True, False, "", "a", "a1", "ab", (None,), ((),), [[]], ("",), ("A",), (((),),), [[[1]]],
    (("a", None),), ((1, 2), 3), ("a1", ("b1",)), (1, True), ((1, 10000),), "take t", (("x", "y"), "z"))
BAD_ROWS = (
    (), [], (1,) * 7, ["a"] * 7, (10000,), (1, -10000), ("",), ("a", "abcdefghi"), (True,), (1, False), (None,),
    ((1,),), ([1],), "a", "abc", 5, None)


def deep(around, value, many=5000):
    """The value put so many times into what around makes of it: deeper than any call may go."""
    for _ in range(many):
        value = around(value)
    return value


def cell_order(cell):
    """Integers ahead of words, made in another way than the program's."""
    return (isinstance(cell, str), 0 if isinstance(cell, str) else cell, str(cell))


def cells_order(row):
    return [cell_order(cell) for cell in row]


class Case(unittest.TestCase):

    def raises(self, error, told, call, *args, **more):
        """The call raises just this error, with this argument in its one attribute."""
        with self.assertRaises(error) as caught:
            call(*args, **more)
        self.assertIs(type(caught.exception), error)
        self.assertEqual(list(vars(caught.exception).values()), [told])
        self.assertEqual([type(each) for each in vars(caught.exception).values()], [type(told)])


def named(letter, many):
    """The first so many tokens of this letter, rising as strings."""
    return tuple(sorted(f"{letter}{number}" for number in range(1, many + 1)))


def sum_of(tokens):
    """The polynomial that is the sum of these tokens."""
    return tuple((((token, 1),), 1) for token in sorted(tokens))


def powers(token, many, coefficient=1):
    """The polynomial 1 + token + token^2 + .. of so many terms."""
    return tuple((((token, at),) if at else (), coefficient) for at in range(many))


def product_of(tokens):
    """The polynomial that is the product of these tokens."""
    return ((tuple((token, 1) for token in sorted(tokens)), 1),)


def as_lists(value):
    """The same value with a list in place of each tuple."""
    if isinstance(value, (tuple, list)):
        return [as_lists(part) for part in value]
    return value


def has_list(value):
    """Whether some part of a value is a list."""
    return isinstance(value, list) or isinstance(value, tuple) and any(has_list(part) for part in value)


def plain_sum(p, q):
    """The sum of two polynomials without any limit, made in another way than the program's."""
    terms = list(p) + list(q)
    return tuple((m, sum(c for n, c in terms if n == m)) for m in sorted({m for m, _ in terms}))


def plain_product(p, q):
    """The product of two polynomials without any limit, made in another way than the program's."""
    total = ()
    for one, c in p:
        for other, d in q:
            tokens = sorted({token for token, _ in one + other})
            exponents = [(t, sum(e for u, e in one + other if u == t)) for t in tokens]
            total = plain_sum(total, ((tuple(exponents), c * d),))
    return total


def any_poly(source, tokens=("a1", "a10", "a2", "b1"), terms=4, greatest=3):
    """Some polynomial; source is a random.Random."""
    found = {}
    for _ in range(source.randrange(terms + 1)):
        chosen = sorted(source.sample(tokens, source.randrange(len(tokens))))
        found[tuple((token, source.randint(1, greatest)) for token in chosen)] = source.randint(1, greatest)
    return tuple(sorted(found.items()))


def any_side(source, width):
    if source.random() < 0.6:
        return ("col", source.randrange(width))
    return ("val", source.choice((-9999, -2, 0, 1, 3, 9999, "a", "ab", "b")))


def any_program(source, widths, many):
    """Some program of at most so many nodes over tables of these widths, and its width."""
    kind = source.choice(("keep", "pick", "join", "both", "make")) if many > 1 else "take"
    if kind == "take":
        name = source.choice(sorted(widths))
        return ("take", name), widths[name]
    if kind in ("join", "both") and many > 2:
        one, width = any_program(source, widths, (many - 1) // 2)
        other, beside = any_program(source, widths, (many - 1) // 2)
        if kind == "both" and width == beside:
            return ("both", one, other), width
        if width + beside <= 6:
            pairs = [(source.randrange(width), source.randrange(beside)) for _ in range(source.randrange(3))]
            return ("join", one, other, tuple(pairs)), width + beside
    part, width = any_program(source, widths, many - 1)
    if kind == "keep":
        return ("keep", part, (any_side(source, width), source.choice("=<!"), any_side(source, width))), width
    if kind == "make" and width < 6:
        making = (source.choice(("sum", "less", "least", "most")), source.randrange(width), source.randrange(width))
        return ("make", part, making), width + 1
    columns = tuple(source.randrange(width) for _ in range(source.randint(1, 4)))
    return ("pick", part, columns), len(columns)


def any_table(source, width, tokens, most=5):
    """Some tagged table of this width; source is a random.Random."""
    found = {}
    for _ in range(source.randrange(most + 1)):
        row = tuple(source.choice((-2, 0, 1, 3, 9999, "a", "ab", "b")) for _ in range(width))
        found[row] = any_poly(source, tokens, 2, 2) or (((), 1),)
    return tuple((row, found[row]) for row in sorted(found, key=cells_order))


def plain_run(program, tables):
    """What a program makes, without any limit, in another way than the program's: a dict by row."""
    kind, found = program[0], {}
    if kind == "take":
        return dict(next(table for name, _, table in tables if name == program[1]))
    for row, p in plain_run(program[1], tables).items():
        if kind == "keep":
            left, sign, right = program[2]
            one, other = (cell_order(row[side[1]] if side[0] == "col" else side[1]) for side in (left, right))
            made = [(row, p)] if {"=": one == other, "<": one < other, "!": one != other}[sign] else []
        elif kind == "pick":
            made = [(tuple(row[at] for at in program[2]), p)]
        elif kind == "both":
            made = [(row, p)]
        elif kind == "make":
            made = [(row + (cell,), p) for cell in plain_cells(program[2][0], row[program[2][1]], row[program[2][2]])]
        else:
            made = [
                (row + beside, plain_product(p, q)) for beside, q in plain_run(program[2], tables).items()
                if all(row[i] == beside[j] for i, j in program[3])]
        for each, q in made:
            found[each] = plain_sum(found.get(each, ()), q)
    if kind == "both":
        for row, p in plain_run(program[2], tables).items():
            found[row] = plain_sum(found.get(row, ()), p)
    return found


def plain_cells(kind, one, other):
    """The cell that is made of two cells, or none, as a list."""
    if str in (type(one), type(other)):
        return []
    cell = {"sum": one + other, "less": one - other, "least": min(one, other), "most": max(one, other)}[kind]
    return [cell] if abs(cell) <= 9999 else []


def plain_table(found):
    """A dict by row as a tagged table."""
    return tuple((row, found[row]) for row in sorted(found, key=cells_order))


def simple(rows, letter="a"):
    """The table of these unlike rows, with the tokens of this letter from 1 on in their sequence."""
    found = {row: ((((f"{letter}{at}", 1),), 1),) for at, row in enumerate(rows, 1)}
    return plain_table(found)


def triple(name, table):
    """The table, which has rows, with its name and width."""
    return (name, len(table[0][0]), table)
