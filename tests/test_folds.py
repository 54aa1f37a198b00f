"""[20], [21]: folds, what they would be without some tokens, and what hangs on one token."""

import random
import unittest

from making import ANY_VALUES, Case, any_table, as_lists, cells_order, deep, simple
from ledgertrace.errors import BadValue, NothingThere
from ledgertrace.folds import fold, fold_whatif, swing
from ledgertrace.polys import ONE, ZERO, read_poly, replaced, tokens_of

KINDS = ("count", "sum", "least", "most")


def at(row, text):
    return (row, read_poly(text))


SOLD = (
    at((1, "ann", -3), "a1"), at((1, "ann", 4), "a2 + b1"), at((1, "bob", "x"), "a1*a2"), at((2, "ann", 5), "a10"),
    at((2, "bob", 0), "2*a1"), at(("z", "bob", "y"), "b1^2"))


def values(groups):
    """The groups without their members."""
    return tuple((key, value) for key, value, _ in groups)


def plain_value(kind, column, rows):
    """What rows come to, in another way than the program's."""
    cells = sorted([row[column] for row in rows], key=lambda cell: cells_order((cell,))) if kind != "count" else []
    return {
        "count": lambda: len(rows), "sum": lambda: sum(cell for cell in cells if type(cell) is int),
        "least": lambda: cells[0], "most": lambda: cells[-1]}[kind]()


def plain_fold(table, keys, kind, column):
    found = {}
    for row, p in table:
        found.setdefault(tuple(row[key] for key in keys), []).append((row, p))
    return tuple(
        (key, plain_value(kind, column, [row for row, _ in found[key]]), tuple(found[key]))
        for key in sorted(found, key=cells_order))


class Fold(Case):

    def fold(self, table, keys, kind, column):
        made = fold(table, keys, kind, column)
        self.assertEqual(fold(*as_lists((table, keys, kind, column))), made)
        self.assertEqual(made, plain_fold(table, keys, kind, column))
        return made

    def test_groups_with_their_members(self):
        self.assertEqual(self.fold(SOLD, (1,), "count", 0), (
            (("ann",), 3, (SOLD[0], SOLD[1], SOLD[3])), (("bob",), 3, (SOLD[2], SOLD[4], SOLD[5]))))

    def test_groups_rise_by_key(self):
        self.assertEqual(values(self.fold(SOLD, (2,), "count", 0)), (
            ((-3,), 1), ((0,), 1), ((4,), 1), ((5,), 1), (("x",), 1), (("y",), 1)))
        order = (-9999, -10, -9, 0, 2, 10, "a", "aa", "ab", "b")
        table = simple(tuple((cell, at) for at, cell in enumerate(reversed(order))))
        self.assertEqual([key for key, _, _ in self.fold(table, (0,), "sum", 1)], [(cell,) for cell in order])
        self.assertEqual([key for key, _, _ in self.fold(SOLD, (1, 0), "sum", 2)], [
            ("ann", 1), ("ann", 2), ("bob", 1), ("bob", 2), ("bob", "z")])

    def test_sums_leave_words_out(self):
        self.assertEqual(values(self.fold(SOLD, (0,), "sum", 2)), (((1,), 1), ((2,), 5), (("z",), 0)))
        self.assertEqual(values(self.fold(SOLD, (), "sum", 1)), (((), 0),))
        self.assertEqual(values(self.fold(SOLD, (), "sum", 0)), (((), 7),))

    def test_sums_beyond_a_cell(self):
        table = simple(((9999, 1), (9999, 2), (9998, 3)))
        self.assertEqual(values(self.fold(table, (), "sum", 0)), (((), 29996),))
        table = simple(((-9999, 1), (-9999, 2)))
        self.assertEqual(values(self.fold(table, (), "sum", 0)), (((), -19998),))

    def test_least_and_greatest_by_the_order_of_cells(self):
        self.assertEqual(values(self.fold(SOLD, (0,), "least", 2)), (((1,), -3), ((2,), 0), (("z",), "y")))
        self.assertEqual(values(self.fold(SOLD, (0,), "most", 2)), (((1,), "x"), ((2,), 5), (("z",), "y")))
        table = simple(((10, 1), (9, 2), ("ab", 3), ("b", 4), ("aa", 5)))
        self.assertEqual(values(self.fold(table, (), "least", 0)), (((), 9),))
        self.assertEqual(values(self.fold(table, (), "most", 0)), (((), "b"),))
        self.assertEqual(values(self.fold(table[2:], (), "least", 0)), (((), "aa"),))
        self.assertEqual(values(self.fold(table[:2], (), "most", 0)), (((), 10),))

    def test_no_keys(self):
        for kind, value in (("count", 6), ("sum", 6), ("least", -3), ("most", "y")):
            self.assertEqual(self.fold(SOLD, (), kind, 2), (((), value, SOLD),))

    def test_five_keys_and_one_key_twice(self):
        self.assertEqual(values(self.fold(SOLD, (1, 1), "count", 0)), ((("ann", "ann"), 3), (("bob", "bob"), 3)))
        self.assertEqual(values(self.fold(SOLD, (0, 1, 0, 1, 0), "count", 0))[0], ((1, "ann", 1, "ann", 1), 2))
        wide = simple(((1, 2, 3, 4, 5, 6), (1, 2, 3, 4, 5, 7), (0, 2, 3, 4, 5, 6)))
        self.assertEqual(values(self.fold(wide, (4, 3, 2, 1, 0), "sum", 5)), (
            ((5, 4, 3, 2, 0), 6), ((5, 4, 3, 2, 1), 13)))

    def test_an_empty_table(self):
        for kind in KINDS:
            for keys in ((), (0,), (5,), (5, 5, 4, 0, 1)):
                for column in range(6):
                    self.assertEqual(self.fold((), keys, kind, column), ())

    def test_any_value_as_column_of_count(self):
        for value in ANY_VALUES + (6, 99, deep(lambda part: (part,), ())):
            self.assertEqual(fold(SOLD, (1,), "count", value), fold(SOLD, (1,), "count", 0))
            self.assertEqual(fold((), (), "count", value), ())

    def test_any_table(self):
        source = random.Random(20)
        for _ in range(150):
            width = source.randint(1, 4)
            table = any_table(source, width, ("a1", "a10", "b1"), 12)
            keys = tuple(source.randrange(width) for _ in range(source.randrange(6)))
            for kind in KINDS:
                self.fold(table, keys, kind, source.randrange(width))


class WrongFolds(Case):

    def test_any_value_as_keys(self):
        for value in ANY_VALUES + ((0, 1, 2, 0, 1, 2), (3,), (-1,), (0, "1"), ("0",), ((0,),), (None,), "0", "01"):
            if value not in ((), []):
                self.raises(BadValue, 1, fold, SOLD, value, "count", 0)
                self.raises(BadValue, 1, fold, SOLD, value, "median", 9)
        self.raises(BadValue, 1, fold, SOLD, deep(lambda part: (part,), ()), "count", 0)
        self.raises(BadValue, 1, fold, SOLD, (True,), "count", 0)

    def test_any_value_as_kind(self):
        for value in ANY_VALUES + ("Count", "less", "sums", "counts", ("count",), ["sum"], "most ", "average"):
            self.raises(BadValue, 2, fold, SOLD, (0,), value, 0)
            self.raises(BadValue, 2, fold, SOLD, (0,), value, 3)
        self.raises(BadValue, 2, fold, SOLD, (0,), deep(lambda part: (part,), ()), 0)

    def test_any_value_as_column(self):
        for kind in KINDS[1:]:
            for value in ANY_VALUES + (3, -1, -3, 99, "0", (0,), [1]):
                if value not in (0, 1) or isinstance(value, bool):
                    self.raises(BadValue, 3, fold, SOLD, (0,), kind, value)
            self.raises(BadValue, 3, fold, SOLD, (0,), kind, deep(lambda part: [part], ()))

    def test_an_empty_table(self):
        self.raises(BadValue, 1, fold, (), (6,), "count", 0)
        self.raises(BadValue, 1, fold, (), (0, -1), "sum", 0)
        self.raises(BadValue, 1, fold, (), (0,) * 6, "sum", 0)
        self.raises(BadValue, 2, fold, (), (0,), "median", 0)
        for kind in KINDS[1:]:
            self.raises(BadValue, 3, fold, (), (0,), kind, 6)
            self.raises(BadValue, 3, fold, [], [0], kind, None)

    def test_the_first_is_told(self):
        self.raises(BadValue, 1, fold, SOLD, (3,), "median", 3)
        self.raises(BadValue, 2, fold, SOLD, (2,), "median", 3)
        self.raises(BadValue, 3, fold, SOLD, (2,), "most", 3)
        self.assertEqual(len(fold(SOLD, (2,), "count", 3)), 6)


class WhatIf(Case):

    def whatif(self, groups, kind, column, gone):
        made = fold_whatif(groups, kind, column, gone)
        self.assertEqual(fold_whatif(*as_lists((groups, kind, column, gone))), made)
        return made

    def test_members_that_go(self):
        groups = fold(SOLD, (1,), "sum", 2)
        self.assertEqual(self.whatif(groups, "sum", 2, ("a10",)), (
            (("ann",), 1, (SOLD[0], SOLD[1])), (("bob",), 0, (SOLD[2], SOLD[4], SOLD[5]))))
        self.assertEqual(self.whatif(groups, "sum", 2, ("a1",)), (
            (("ann",), 9, (SOLD[1], SOLD[3])), (("bob",), 0, (SOLD[5],))))

    def test_members_that_stay_lose_terms(self):
        groups = fold(SOLD, (1,), "most", 2)
        self.assertEqual(self.whatif(groups, "most", 2, ("b1",)), (
            (("ann",), 5, (SOLD[0], at((1, "ann", 4), "a2"), SOLD[3])), (("bob",), "x", (SOLD[2], SOLD[4]))))

    def test_groups_that_go(self):
        groups = fold(SOLD, (0,), "count", None)
        self.assertEqual(values(self.whatif(groups, "count", None, ("b1",))), (((1,), 3), ((2,), 2)))
        self.assertEqual(values(self.whatif(groups, "count", None, ("b1", "a10", "a1"))), (((1,), 1),))
        self.assertEqual(self.whatif(groups, "count", None, ("b1", "a10", "a1", "a2")), ())
        self.assertEqual(self.whatif((), "count", None, ("b1",)), ())

    def test_tokens_that_no_member_has(self):
        for kind in KINDS:
            groups = fold(SOLD, (0,), kind, 2)
            self.assertEqual(self.whatif(groups, kind, 2, ()), groups)
            self.assertEqual(self.whatif(groups, kind, 2, ("a", "a100", "z1")), groups)
            self.assertEqual(self.whatif(groups, kind, 2, ("a10", "z1", "a10")), self.whatif(groups, kind, 2, ("a10",)))

    def test_the_empty_monomial_stays(self):
        table = (((1,), ONE), at((2,), "3 + a1"), at((3,), "a1"))
        made = self.whatif(fold(table, (), "sum", 0), "sum", 0, ("a1",))
        self.assertEqual(made, (((), 3, (((1,), ONE), at((2,), "3"))),))

    def test_it_is_the_fold_of_the_table_without_these_tokens(self):
        source = random.Random(21)
        tokens = ("a1", "a10", "a2", "b1")
        for _ in range(150):
            width = source.randint(1, 3)
            table = any_table(source, width, tokens, 10)
            keys = tuple(source.randrange(width) for _ in range(source.randrange(3)))
            kind, column = source.choice(KINDS), source.randrange(width)
            gone = [token for token in tokens + ("z1",) if source.random() < 0.5]
            pairs = [(token, ZERO) for token in gone]
            left = tuple((row, replaced(p, pairs)) for row, p in table if replaced(p, pairs))
            self.assertEqual(
                self.whatif(fold(table, keys, kind, column), kind, column, gone), fold(left, keys, kind, column))


class Swing(Case):

    def swing(self, groups, kind, column, key):
        made = swing(groups, kind, column, key)
        self.assertEqual(swing(*as_lists((groups, kind, column, key))), made)
        return made

    def test_each_token_of_the_members(self):
        groups = fold(SOLD, (1,), "sum", 2)
        self.assertEqual(self.swing(groups, "sum", 2, ("ann",)), (("a1", 9), ("a10", 1), ("a2", 6), ("b1", 6)))
        self.assertEqual(self.swing(groups, "sum", 2, ("bob",)), (("a1", 0), ("a2", 0), ("b1", 0)))
        groups = fold(SOLD, (), "most", 2)
        self.assertEqual(self.swing(groups, "most", 2, ()), (("a1", "y"), ("a10", "y"), ("a2", "y"), ("b1", "x")))

    def test_a_group_that_a_token_takes_away(self):
        groups = fold(SOLD, (0,), "count", ("any",))
        self.assertEqual(self.swing(groups, "count", ("any",), ("z",)), (("b1", None),))
        self.assertEqual(self.swing(groups, "count", ("any",), (2,)), (("a1", 1), ("a10", 1)))
        groups = fold((at((7,), "a1*b1 + a1*c1"),), (), "least", 0)
        self.assertEqual(self.swing(groups, "least", 0, ()), (("a1", None), ("b1", 7), ("c1", 7)))

    def test_a_group_without_tokens(self):
        self.assertEqual(self.swing(fold((((1,), ONE),), (0,), "sum", 0), "sum", 0, (1,)), ())

    def test_a_key_that_no_group_has(self):
        groups = fold(SOLD, (0,), "sum", 2) + fold(SOLD, (1, 0), "sum", 2)
        for key in ((), (3,), ("1",), ("zz",), (1, 2), ("ann",), ("ann", 3), [], [[1]], ((1,),), "z", "", 1, 2, None):
            self.raises(NothingThere, "key", swing, groups, "sum", 2, key)
        self.raises(NothingThere, "key", swing, (), "count", None, ())
        self.raises(NothingThere, "key", swing, groups, "sum", 2, deep(lambda part: (part,), ()))
        letters = fold(simple((("a", "b"),)), (0, 1), "count", 0)
        self.raises(NothingThere, "key", swing, letters, "count", 0, "ab")

    def test_it_is_fold_whatif_of_each_token(self):
        source = random.Random(212)
        for _ in range(100):
            width = source.randint(1, 3)
            table = any_table(source, width, ("a1", "a10", "a2", "b1"), 8)
            kind, column = source.choice(KINDS), source.randrange(width)
            groups = fold(table, (0,), kind, column)
            for key, _, members in groups:
                tokens = sorted({token for _, p in members for token in tokens_of(p)})
                told = [(token, dict(values(fold_whatif(groups, kind, column, (token,)))).get(key)) for token in tokens]
                self.assertEqual(self.swing(groups, kind, column, key), tuple(told))


if __name__ == "__main__":
    unittest.main()
