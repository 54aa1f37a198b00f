"""[3], [9]: cells, rows, tokens and their order; tagged tables."""

import random
import unittest

from making import (
    ANY_VALUES, BAD_CELLS, BAD_ROWS, BAD_TOKENS, GOOD_CELLS, GOOD_TOKENS, Case, as_lists, cells_order, deep, named,
    sum_of)
from ledgertrace.errors import BadValue, NothingThere, TooMany
from ledgertrace.measures import MEASURES, valued
from ledgertrace.polys import ONE, ZERO, of_token, plus, poly_text, read_poly
from ledgertrace.tables import poly_at, rows_of, table_valued, tagged


class Tagged(Case):

    def test_rows_and_tokens(self):
        self.assertEqual(tagged((("ann", 3), ("bob", 5)), ("a1", "a2")), (
            (("ann", 3), (((("a1", 1),), 1),)), (("bob", 5), (((("a2", 1),), 1),))))

    def test_no_rows(self):
        self.assertEqual(tagged((), ()), ())
        self.assertEqual(tagged([], []), ())

    def test_equal_rows_become_one(self):
        table = tagged(((7,), (3,), (7,), (7,)), ("a2", "a3", "a10", "a2"))
        self.assertEqual(table, (
            ((3,), of_token("a3")), ((7,), (((("a10", 1),), 1), ((("a2", 1),), 2)))))

    def test_a_token_may_stand_in_several_rows(self):
        self.assertEqual(tagged(((2,), (1,)), ("a1", "a1")), (((1,), of_token("a1")), ((2,), of_token("a1"))))

    def test_integers_ahead_of_words_words_as_strings(self):
        cells = ("b", 10, "aa", -3, "a", 9, "ab", -9999, 9999, 0)
        table = tagged(tuple((cell,) for cell in cells), named("a", 10))
        self.assertEqual([row[0] for row in rows_of(table)], [-9999, -3, 0, 9, 10, 9999, "a", "aa", "ab", "b"])

    def test_rows_rise_by_their_first_unlike_cells(self):
        rows = (("a", 2, 1), (5, "b", 1), (5, 7, "z"), ("a", 2, -1), (5, 7, 9), ("a", 10, 0), (5, "a", 2))
        self.assertEqual(rows_of(tagged(rows, named("a", 7))), (
            (5, 7, 9), (5, 7, "z"), (5, "a", 2), (5, "b", 1), ("a", 2, -1), ("a", 2, 1), ("a", 10, 0)))

    def test_any_rows_rise(self):
        source = random.Random(9)
        for _ in range(60):
            many = source.randint(1, 12)
            rows = [(source.choice((-1, 3, "a", "b", "ba")), source.choice((0, 12, "a", "z"))) for _ in range(many)]
            tokens = [source.choice(("a1", "a10", "a2")) for _ in range(many)]
            table = tagged(rows, tokens)
            self.assertEqual(list(rows_of(table)), sorted(set(rows), key=cells_order))
            for row, p in table:
                made = ZERO
                for each, token in zip(rows, tokens):
                    made = plus(made, of_token(token)) if each == row else made
                self.assertEqual(p, made)

    def test_lists(self):
        table = tagged([["b", 1], ("a", 2), ["b", 1]], ["a1", "a2", "a3"])
        self.assertEqual(table, ((("a", 2), of_token("a2")), (("b", 1), read_poly("a1 + a3"))))


class WrongTables(Case):

    def test_what_are_no_rows(self):
        for rows in ANY_VALUES:
            if rows not in ((), []):
                self.raises(BadValue, 0, tagged, rows, ("a1",))
        for row in BAD_ROWS + ANY_VALUES:
            self.raises(BadValue, 0, tagged, (row,), ("a1",))
            self.raises(BadValue, 0, tagged, ((1,), row), ("a1", "a2"))

    def test_cells(self):
        for cell in GOOD_CELLS:
            self.assertEqual(rows_of(tagged(((cell,),), ("a1",))), ((cell,),))
            self.assertEqual(rows_of(tagged(((1, cell),), ("a1",))), ((1, cell),))
        for cell in BAD_CELLS:
            self.raises(BadValue, 0, tagged, ((cell,),), ("a1",))
            self.raises(BadValue, 0, tagged, ((1, cell),), ("a1",))
            self.raises(BadValue, 0, tagged, ((1, 1), (1, cell)), ("a1", "a2"))

    def test_widths(self):
        for width in range(1, 7):
            self.assertEqual(rows_of(tagged(((4,) * width,), ("a1",))), ((4,) * width,))
        for width in (0, 7, 100):
            self.raises(BadValue, 0, tagged, ((4,) * width,), ("a1",))
        self.raises(BadValue, 0, tagged, ((1,), (1, 2)), ("a1", "a2"))
        self.raises(BadValue, 0, tagged, ((1, 2), (1, 2), (1,)), ("a1", "a2", "a3"))

    def test_what_are_no_tokens(self):
        for tokens in ANY_VALUES:
            self.raises(BadValue, 1, tagged, ((1,),), tokens)
        for token in BAD_TOKENS:
            self.raises(BadValue, 1, tagged, ((1,),), (token,))
            self.raises(BadValue, 1, tagged, ((1,), (2,)), ("a1", token))
        for token in GOOD_TOKENS:
            self.assertEqual(tagged(((1,),), (token,)), (((1,), of_token(token)),))

    def test_another_number_of_tokens(self):
        self.raises(BadValue, 1, tagged, ((1,), (2,)), ("a1",))
        self.raises(BadValue, 1, tagged, ((1,), (2,)), ("a1", "a2", "a3"))
        self.raises(BadValue, 1, tagged, ((1,), (1,)), ("a1",))
        self.raises(BadValue, 1, tagged, (), ("a1",))
        self.raises(BadValue, 1, tagged, ((1,),), ())

    def test_values_that_are_far_too_deep(self):
        for value in (deep(lambda part: (part,), ()), deep(lambda part: [1, part], [])):
            self.raises(BadValue, 0, tagged, value, ("a1",))
            self.raises(BadValue, 0, tagged, ((1,), value), ("a1", "a2"))
            self.raises(BadValue, 1, tagged, ((1,),), value)
            self.raises(BadValue, 1, tagged, ((1,),), (value,))

    def test_both_wrong(self):
        self.raises(BadValue, 0, tagged, None, None)
        self.raises(BadValue, 0, tagged, ((),), ("A1",))
        self.raises(BadValue, 0, tagged, ((1,), (1, 2)), ("a1",))

    def test_wrong_ones_ahead_of_too_many(self):
        rows = tuple((at,) for at in range(401))
        self.raises(BadValue, 0, tagged, rows + ((1, 1),), named("a", 402))
        self.raises(BadValue, 1, tagged, rows, named("a", 400))
        self.raises(BadValue, 1, tagged, rows, named("a", 400) + ("A1",))

    def test_400_and_401_rows(self):
        rows = tuple((at - 200,) for at in range(400))
        tokens = named("a", 401)
        self.assertEqual(rows_of(tagged(rows, tokens[:400])), rows)
        self.raises(TooMany, "rows", tagged, rows + ((200,),), tokens)
        twice = rows + ((-200,),)
        self.assertEqual(rows_of(tagged(twice, tokens)), rows)
        self.assertEqual(len(tagged(rows * 3, tokens[:400] * 3)), 400)

    def test_400_and_401_terms(self):
        tokens = named("a", 401)
        self.assertEqual(tagged(((5,),) * 400, tokens[:400]), (((5,), sum_of(tokens[:400])),))
        self.raises(TooMany, "terms", tagged, ((5,),) * 401, tokens)
        alike = tokens[:400] + tokens[:1]
        self.assertEqual(len(tagged(((5,),) * 401, alike)[0][1]), 400)
        self.assertEqual(tagged(((5,),) * 1000, ("a1",) * 1000), (((5,), (((("a1", 1),), 1000),)),))

    def test_rows_ahead_of_terms(self):
        rows = ((0,),) * 401 + tuple((at,) for at in range(1, 401))
        tokens = named("a", 801)
        self.raises(TooMany, "rows", tagged, rows, tokens)
        self.raises(TooMany, "terms", tagged, rows[:-1], tokens[:-1])


class OfTables(Case):

    table = tagged((("ann", 3), (3, "ann"), ("ann", 3)), ("a1", "b1", "a2"))

    def test_rows_of(self):
        self.assertEqual(rows_of(()), ())
        self.assertEqual(rows_of(self.table), ((3, "ann"), ("ann", 3)))
        self.assertEqual(rows_of(as_lists(self.table)), ((3, "ann"), ("ann", 3)))

    def test_poly_at(self):
        self.assertEqual(poly_at(self.table, ("ann", 3)), read_poly("a1 + a2"))
        self.assertEqual(poly_at(self.table, (3, "ann")), of_token("b1"))
        self.assertEqual(poly_at(self.table, ("ann", 4)), ZERO)
        self.assertEqual(poly_at(self.table, ("ann",)), ZERO)
        self.assertEqual(poly_at((), ("ann", 3)), ZERO)
        self.assertEqual(poly_at(as_lists(self.table), ["ann", 3]), read_poly("a1 + a2"))

    def test_table_valued(self):
        given = (("a1", 2), ("a2", 5), ("b1", 0))
        self.assertEqual(table_valued(self.table, "count", given), (((3, "ann"), 0), (("ann", 3), 7)))
        self.assertEqual(table_valued(self.table, "cost", given), (((3, "ann"), 0), (("ann", 3), 2)))
        self.assertEqual(table_valued(self.table, "trust", given), (((3, "ann"), 0), (("ann", 3), 5)))
        given = (("a1", False), ("a2", True), ("b1", False))
        self.assertEqual(table_valued(self.table, "there", given), (((3, "ann"), False), (("ann", 3), True)))
        given = [["", ["eve", "joe"]], ["a1", ["eve"]], ["a2", []], ["b1", []]]
        self.assertEqual(
            table_valued(as_lists(self.table), "seen", given), (((3, "ann"), ()), (("ann", 3), ("eve",))))

    def test_each_value_is_that_of_the_polynomial(self):
        table = tagged(tuple((at // 3,) for at in range(12)), named("a", 12))
        given = tuple((token, at * 7 + 1) for at, token in enumerate(named("a", 12)))
        for measure in MEASURES[:3]:
            self.assertEqual(
                table_valued(table, measure, given), tuple((row, valued(p, measure, given)) for row, p in table))

    def test_what_is_lacking_row_by_row(self):
        self.raises(NothingThere, "b1", table_valued, self.table, "count", (("a2", 1),))
        self.raises(NothingThere, "a2", table_valued, self.table, "count", (("b1", 1), ("a1", 4)))
        self.raises(NothingThere, "", table_valued, self.table, "seen", (("b1", ()),))
        self.assertEqual(table_valued((), "seen", ()), ())
        self.assertEqual(table_valued((), "count", ()), ())

    def test_figures_row_by_row(self):
        two = (((1,), of_token("a1")), ((2,), of_token("a2")))
        self.raises(TooMany, "figures", table_valued, two, "count", (("a1", 10 ** 4000), ("b1", 1), ("a2", 1)))
        self.raises(NothingThere, "a1", table_valued, two, "count", (("a2", 10 ** 4000),))
        heavy = (((1,), read_poly("a1^2")), ((2,), of_token("b1")))
        self.raises(TooMany, "figures", table_valued, heavy, "count", (("a1", 10 ** 2000),))
        self.assertEqual(
            table_valued(heavy[:1], "count", (("a1", 10 ** 1999),)), (((1,), 10 ** 3998),))

    def test_the_empty_monomial(self):
        self.assertEqual(table_valued((((1,), ONE),), "seen", (("", ("eve", "joe")),)), (((1,), ("eve", "joe")),))
        self.assertEqual(poly_text(poly_at((((1,), ONE),), (1,))), "1")


if __name__ == "__main__":
    unittest.main()
