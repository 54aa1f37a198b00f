"""[17], [18]: least additions, and the cheapest of them."""

import itertools
import random
import unittest

from making import (
    ANY_VALUES, BAD_CELLS, BAD_ROWS, BAD_TOKENS, Case, any_program, any_table, as_lists, deep, named, simple, sum_of)
from ledgertrace.errors import BadProgram, BadValue, TooMany
from ledgertrace.polys import of_token, read_poly
from ledgertrace.programs import width_of
from ledgertrace.running import run
from ledgertrace.tables import rows_of
from ledgertrace.whatif import whatif
from ledgertrace.whynot import additions, nearest

T = ("take", "t")
U = ("take", "u")


def at(row, text):
    return (row, read_poly(text))


def new(name, token, *row):
    return ("new", name, row, token)


# Who sold what, who paid whom.
TABLES = (("t", 2, (at(("ann", 3), "a1"), at(("bob", 5), "a2"))), ("u", 2, (at(("ann", "eve"), "b1"),)))
WHO = ("pick", ("join", T, U, ((0, 0),)), (3,))


def plain_additions(program, tables, candidates, row):
    """The least sets of candidates that bring the row, by trying all of them, the lesser ones first."""
    found = []
    for size in range(len(candidates) + 1):
        for each in itertools.combinations(candidates, size):
            tokens = {candidate[3] for candidate in each}
            if not any(set(other) <= tokens for other in found) and row in rows_of(whatif(program, tables, each)):
                found.append(tuple(sorted(tokens)))
    return tuple(sorted(found, key=lambda each: (len(each), each)))


class Additions(Case):

    candidates = (
        new("u", "c1", "bob", "joe"), new("u", "c2", "ann", "joe"), new("u", "c3", "zoe", "joe"),
        new("t", "c4", "zoe", 1), new("t", "c5", "zoe", 2), new("u", "c6", "kim", "kim"))

    def test_least_sets(self):
        self.assertEqual(additions(WHO, TABLES, self.candidates, ("joe",)), (
            ("c1",), ("c2",), ("c3", "c4"), ("c3", "c5")))
        self.assertEqual(additions(WHO, TABLES, self.candidates[2:4], ("joe",)), (("c3", "c4"),))

    def test_sets_of_which_no_other_one_is_a_part(self):
        three = ("join", ("join", T, T, ()), ("pick", T, (0,)), ())
        tables = (("t", 1, ()),)
        made = additions(three, tables, (new("t", "c2", 1), new("t", "c10", 1), new("t", "c1", 2)), (1, 1, 1))
        self.assertEqual(made, (("c10",), ("c2",)))
        made = additions(three, tables, (new("t", "c2", 1), new("t", "c10", 1), new("t", "c1", 2)), (1, 2, 1))
        self.assertEqual(made, (("c1", "c10"), ("c1", "c2")))

    def test_a_row_that_is_there_already(self):
        self.assertEqual(additions(WHO, TABLES, (), ("eve",)), ((),))
        self.assertEqual(additions(WHO, TABLES, self.candidates, ("eve",)), ((),))
        more = self.candidates + (new("u", "d1", "ann", "eve"), new("u", "d2", "bob", "eve"))
        self.assertEqual(additions(WHO, TABLES, more, ("eve",)), ((),))

    def test_a_row_that_all_candidates_do_not_bring(self):
        self.assertEqual(additions(WHO, TABLES, (), ("joe",)), ())
        self.assertEqual(additions(WHO, TABLES, self.candidates, ("kim",)), ())
        self.assertEqual(additions(WHO, TABLES, self.candidates[2:3], ("joe",)), ())
        self.assertEqual(additions(WHO, TABLES, self.candidates, (5,)), ())

    def test_all_sources_are_there(self):
        # The token of ann's row stands in each term; it does not stand in what is told.
        self.assertEqual(additions(WHO, TABLES, self.candidates[1:2], ("joe",)), (("c2",),))
        square = ("join", T, T, ())
        self.assertEqual(additions(square, TABLES, (new("t", "c1", "zoe", 1),), ("zoe", 1, "ann", 3)), (("c1",),))
        self.assertEqual(additions(square, TABLES, (new("t", "c1", "zoe", 1),), ("zoe", 1, "zoe", 1)), (("c1",),))

    def test_sets_of_more_than_one_size_ascend(self):
        triple = ("join", ("join", T, U, ()), ("take", "v"), ())
        tables = (("t", 1, (at((1,), "a1"),)), ("u", 1, ()), ("v", 1, ()))
        program = ("both", triple, ("pick", T, (0, 0, 0)))
        candidates = (new("u", "b9", 1), new("v", "c1", 1), new("t", "z1", 2), new("u", "b10", 1))
        self.assertEqual(additions(program, tables, candidates, (1, 1, 1)), ((),))
        self.assertEqual(additions(triple, tables, candidates, (1, 1, 1)), (("b10", "c1"), ("b9", "c1")))
        self.assertEqual(additions(program, tables, candidates, (2, 2, 2)), (("z1",),))
        candidates += (new("t", "y1", 3), new("u", "x1", 3), new("v", "w1", 3), new("v", "w2", 4), new("u", "x2", 4))
        self.assertEqual(additions(triple, tables, candidates, (2, 3, 4)), (("w2", "x1", "z1"),))
        both = ("both", ("pick", ("join", U, ("take", "v"), ((0, 0),)), (0,)), T)
        self.assertEqual(additions(both, tables, candidates, (3,)), (("y1",), ("w1", "x1")))

    def test_any_program(self):
        source = random.Random(17)
        widths = {"t": 2, "u": 1}
        for _ in range(60):
            tables = [("t", 2, any_table(source, 2, ("a1", "a10", "b1"))), ("u", 1, any_table(source, 1, ("a1", "c1")))]
            program, width = any_program(source, widths, source.randint(2, 7))
            cells = (-2, 0, 1, "a", "b")
            candidates = []
            for turn in range(source.randrange(5)):
                name = source.choice("tu")
                candidates.append(new(name, f"n{turn + 7}", *[source.choice(cells) for _ in range(widths[name])]))
            try:
                wanted = rows_of(whatif(program, tables, candidates))
            except TooMany:
                continue
            wanted = source.sample(wanted, min(3, len(wanted))) + [tuple(source.choice(cells) for _ in range(width))]
            for row in wanted:
                made = additions(program, tables, candidates, row)
                self.assertEqual(made, plain_additions(program, tables, candidates, row))
                self.assertEqual(additions(*as_lists((program, tables, candidates, row))), made)


class WrongAdditions(Case):

    good = (new("u", "c1", "bob", "joe"),)
    prices = (("c1", 1),)

    def told(self, error, argument, program, tables, candidates, row):
        self.raises(error, argument, additions, program, tables, candidates, row)
        self.raises(error, argument, nearest, program, tables, candidates, row, ())
        self.raises(error, argument, nearest, program, tables, candidates, row, None)

    def test_no_candidates(self):
        for value in ANY_VALUES:
            if value not in ((), []):
                self.told(BadValue, 2, WHO, TABLES, value, ("joe",))
            self.told(BadValue, 2, WHO, TABLES, (value,), ("joe",))
            for wrong in (new("u", value, "a", "b"), new(value, "c2", "a", "b"), ("new", "u", value, "c2"),
                          (value, "u", ("a", "b"), "c2"), ("new", value), ("gone", value)):
                self.told(BadValue, 2, WHO, TABLES, self.good + (wrong,), ("joe",))

    def test_wrong_candidates(self):
        for token in BAD_TOKENS + ("a1", "a2", "b1", "c1"):
            self.told(BadValue, 2, WHO, TABLES, self.good + (new("u", token, 1, 1),), ("joe",))
        for row in BAD_ROWS + ((1,), (1, 1, 1)):
            self.told(BadValue, 2, WHO, TABLES, self.good + (("new", "u", row, "c2"),), ("joe",))
        for cell in BAD_CELLS:
            self.told(BadValue, 2, WHO, TABLES, self.good + (new("u", "c2", "a", cell),), ("joe",))
        for name in ("v", "", None, 0, "T"):
            self.told(BadValue, 2, WHO, TABLES, self.good + (new(name, "c2", 1, 1),), ("joe",))

    def test_tokens_that_go_are_no_candidates(self):
        self.told(BadValue, 2, WHO, TABLES, (("gone", "a1"),), ("joe",))
        self.told(BadValue, 2, WHO, TABLES, self.good + (("gone", "c1"),), ("joe",))
        self.told(BadValue, 2, WHO, TABLES, (("gone", "z1"),), ("joe",))

    def test_rows_of_another_width(self):
        for row in ((1, 1), (1,) * 6) + BAD_ROWS + ANY_VALUES:
            self.told(BadValue, 3, WHO, TABLES, self.good, row)
        for row in ((1,), ("joe", 1, 1, 1, 1)):
            self.told(BadValue, 3, T, TABLES, self.good, row)
        for cell in BAD_CELLS:
            self.told(BadValue, 3, WHO, TABLES, self.good, (cell,))
        self.told(BadValue, 3, WHO, TABLES, (), (1, 1))
        self.told(BadValue, 3, WHO, TABLES, (), deep(lambda part: (part,), ()))

    def test_the_sequence(self):
        rows = ("t", 1, simple(tuple((each,) for each in range(401))))
        full = ("t", 1, simple(tuple((each,) for each in range(400))))
        more = (new("t", "b1", 990),)
        self.told(BadProgram, 0, ("take", "v"), (rows,), None, None)
        self.told(BadProgram, 0, deep(lambda part: ("pick", part, (0,)), T), (full,), more, (1,))
        self.told(TooMany, "rows", T, (rows,), None, None)
        self.told(BadValue, 2, T, (full,), None, None)
        self.told(BadValue, 2, T, (full,), more + more, (1, 1))
        self.told(BadValue, 3, T, (full,), more, (1, 1))
        self.told(TooMany, "rows", T, (full,), more, (1,))
        twenty = ("t", 1, simple(tuple((each,) for each in range(20))))
        self.told(BadValue, 3, ("join", T, T, ()), (twenty,), more, (1,))
        self.told(TooMany, "rows", ("join", T, T, ()), (twenty,), more, (1, 1))
        terms = ("t", 1, (((1,), sum_of(named("a", 400))),))
        self.told(TooMany, "terms", T, (terms,), (new("t", "b1", 1),), (1,))
        halves = ("t", 2, (((1, 1), sum_of(named("a", 399))), ((1, 2), of_token("b1"))))
        self.told(TooMany, "terms", ("pick", T, (0,)), (halves,), (new("t", "c1", 1, 3),), (1,))

    def test_too_many_in_a_table_that_nothing_takes(self):
        rows = ("t", 1, simple(tuple((each,) for each in range(401))))
        other = ("u", 1, (at((1,), "b1"),))
        self.told(TooMany, "rows", U, (rows, other), (), (1,))
        self.told(BadValue, 3, U, (rows, other), (), (1, 1))


class Nearest(Case):

    candidates = Additions.candidates

    def nearest(self, *prices, row=("joe",)):
        given = tuple((f"c{place}", price) for place, price in enumerate(prices, 1))
        made = nearest(WHO, TABLES, self.candidates, row, given)
        self.assertEqual(nearest(WHO, TABLES, self.candidates, row, given[::-1]), made)
        self.assertEqual(nearest(*as_lists((WHO, TABLES, self.candidates, row, given))), made)
        return made

    def test_the_least_price(self):
        self.assertEqual(self.nearest(5, 7, 9, 9, 9, 0), (5, ("c1",)))
        self.assertEqual(self.nearest(7, 5, 9, 9, 9, 0), (5, ("c2",)))
        self.assertEqual(self.nearest(7, 7, 3, 4, 3, 0), (6, ("c3", "c5")))
        self.assertEqual(self.nearest(10 ** 60 + 1, 10 ** 60, 10 ** 60, 0, 1, 0), (10 ** 60, ("c2",)))

    def test_the_first_of_equal_prices(self):
        self.assertEqual(self.nearest(7, 7, 9, 9, 9, 0), (7, ("c1",)))
        self.assertEqual(self.nearest(7, 7, 3, 4, 4, 0), (7, ("c1",)))
        self.assertEqual(self.nearest(8, 8, 3, 4, 4, 0), (7, ("c3", "c4")))

    def test_prices_of_0(self):
        self.assertEqual(self.nearest(0, 0, 0, 0, 0, 0), (0, ("c1",)))
        self.assertEqual(self.nearest(1, 1, 0, 1, 0, 1), (0, ("c3", "c5")))

    def test_candidates_and_prices_in_any_sequence(self):
        candidates = (new("u", "c2", "bob", "joe"), new("u", "c10", "ann", "joe"), new("u", "c1", "bob", "joe"))
        for prices in itertools.permutations((("c1", 9), ("c2", 4), ("c10", 6))):
            self.assertEqual(nearest(WHO, TABLES, candidates, ("joe",), prices), (4, ("c2",)))

    def test_a_row_that_is_there_already(self):
        self.assertEqual(self.nearest(5, 7, 9, 9, 9, 0, row=("eve",)), (0, ()))
        self.assertEqual(nearest(WHO, TABLES, (), ("eve",), ()), (0, ()))

    def test_none(self):
        self.assertIsNone(self.nearest(5, 7, 9, 9, 9, 0, row=("kim",)))
        self.assertIsNone(nearest(WHO, TABLES, (), ("joe",), ()))

    def test_it_is_the_cheapest_of_the_additions(self):
        source = random.Random(18)
        sets = additions(WHO, TABLES, self.candidates, ("joe",))
        for _ in range(100):
            prices = [source.randrange(4) for _ in range(6)]
            sums = [sum(prices[int(token[1:]) - 1] for token in each) for each in sets]
            self.assertEqual(self.nearest(*prices), (min(sums), sets[sums.index(min(sums))]))


class WrongPrices(Case):

    candidates = Additions.candidates[:2]
    good = (("c1", 1), ("c2", 2))

    def wrong(self, *prices, row=("joe",)):
        self.raises(BadValue, 4, nearest, WHO, TABLES, self.candidates, row, prices)
        self.raises(BadValue, 4, nearest, WHO, TABLES, self.candidates, row, as_lists(prices))

    def test_any_value(self):
        for value in ANY_VALUES:
            self.raises(BadValue, 4, nearest, WHO, TABLES, self.candidates, ("joe",), value)
            self.wrong(value)
            self.wrong(self.good[0], value)
            self.wrong(self.good[0], self.good[1], value)
            self.wrong(self.good[0], (value, 2))
            if type(value) is not int or value < 0:
                self.wrong(self.good[0], ("c2", value))

    def test_a_candidate_that_is_lacking(self):
        self.wrong()
        self.wrong(self.good[0])
        self.wrong(self.good[1])

    def test_a_candidate_twice(self):
        self.wrong(self.good[0], self.good[1], self.good[0])
        self.wrong(self.good[0], self.good[0])
        self.wrong(self.good[0], self.good[1], ("c2", 3))

    def test_another_token(self):
        self.wrong(self.good[0], self.good[1], ("c3", 1))
        self.wrong(self.good[0], ("c3", 1))
        self.wrong(self.good[0], self.good[1], ("a1", 1))
        self.raises(BadValue, 4, nearest, WHO, TABLES, (), ("joe",), (("a1", 1),))

    def test_forms(self):
        for pair in (("c2",), ("c2", 2, 2), (2, "c2"), "c2", ("c2", "2"), ("c2", True), ("c2", None), ("c2", -1),
                     ("C2", 2)):
            self.wrong(self.good[0], pair)
            self.wrong(pair, self.good[0])

    def test_also_where_there_is_nothing_to_pay(self):
        self.wrong(self.good[0], row=("eve",))
        self.wrong(self.good[0], row=("kim",))

    def test_widths(self):
        self.assertEqual(width_of(WHO, (("t", 2), ("u", 2))), 1)
        self.assertEqual(rows_of(run(WHO, TABLES)), (("eve",),))


if __name__ == "__main__":
    unittest.main()
