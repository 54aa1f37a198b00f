"""[15], [16]: changes, what the tables are behind them, and what programs make then."""

import random
import unittest

from making import (
    ANY_VALUES, BAD_CELLS, BAD_ROWS, BAD_TOKENS, GREATEST, Case, any_program, any_table, as_lists, cells_order, deep,
    named, simple, sum_of)
from ledgertrace.errors import BadProgram, BadValue, TooMany
from ledgertrace.polys import ONE, ZERO, of_token, read_poly, replaced, tokens_of
from ledgertrace.running import run
from ledgertrace.tables import poly_at, rows_of, tagged
from ledgertrace.whatif import changed_tables, moved, whatif

T = ("take", "t")
U = ("take", "u")


def at(row, text):
    return (row, read_poly(text))


TABLE = (at((1, "a"), "a1"), at((2, "a"), "a1*b1 + a10^2"), at(("a", 1), "2*a2 + b1"))
OTHER = (at((5,), "1 + a1"), at((6,), "c1"))
TABLES = (("t", 2, TABLE), ("u", 1, OTHER), ("none", 3, ()))


def changed(*changes):
    """The tables behind changes, which hold also if lists are handed in."""
    made = changed_tables(TABLES, changes)
    assert changed_tables(as_lists(TABLES), as_lists(changes)) == made
    return made


def behind(name, *changes):
    return next(table for each, _, table in changed(*changes) if each == name)


class Changed(Case):

    def test_no_changes(self):
        self.assertEqual(changed(), TABLES)
        self.assertEqual(changed_tables((), ()), ())

    def test_tokens_that_go_are_0_in_all_polynomials(self):
        self.assertEqual(changed(("gone", "a1")), (
            ("t", 2, (at((2, "a"), "a10^2"), at(("a", 1), "2*a2 + b1"))), ("u", 1, (at((5,), "1"), at((6,), "c1"))),
            ("none", 3, ())))
        self.assertEqual(changed(("gone", "b1"), ("gone", "a10")), (
            ("t", 2, (at((1, "a"), "a1"), at(("a", 1), "2*a2"))), TABLES[1], TABLES[2]))

    def test_rows_that_become_zero_go(self):
        self.assertEqual(behind("u", ("gone", "c1")), (at((5,), "1 + a1"),))
        self.assertEqual(behind("t", *(("gone", token) for token in ("a1", "a10", "a2", "b1"))), ())
        self.assertEqual(behind("t", ("gone", "a1"), ("gone", "a2")), (at((2, "a"), "a10^2"), at(("a", 1), "b1")))

    def test_a_token_is_no_beginning_of_another_one(self):
        self.assertEqual(behind("t", ("gone", "a1"))[0], at((2, "a"), "a10^2"))
        self.assertEqual(behind("t", ("gone", "a10"))[1], at((2, "a"), "a1*b1"))

    def test_new_rows(self):
        self.assertEqual(behind("u", ("new", "u", (-3,), "d1"), ("new", "u", ("z",), "d2")), (
            at((-3,), "d1"), OTHER[0], OTHER[1], at(("z",), "d2")))
        self.assertEqual(behind("none", ("new", "none", (1, 2, 3), "z9999")), (at((1, 2, 3), "z9999"),))
        self.assertEqual(changed(("new", "u", (7,), "d1"))[0], TABLES[0])

    def test_a_new_row_that_is_there_already_adds_up(self):
        self.assertEqual(behind("t", ("new", "t", (2, "a"), "a11"))[1], at((2, "a"), "a1*b1 + a10^2 + a11"))
        twice = (("new", "u", (5,), "d1"), ("new", "u", (5,), "d2"))
        self.assertEqual(behind("u", *twice)[0], at((5,), "1 + a1 + d1 + d2"))
        self.assertEqual(behind("none", ("new", "none", (1, 2, 3), "d2"), ("new", "none", (1, 2, 3), "d1")), (
            at((1, 2, 3), "d1 + d2"),))

    def test_a_new_row_in_place_of_one_that_went(self):
        self.assertEqual(behind("u", ("gone", "c1"), ("new", "u", (6,), "d1"))[1], at((6,), "d1"))
        self.assertEqual(behind("u", ("new", "u", (6,), "d1"), ("gone", "c1"))[1], at((6,), "d1"))

    def test_a_token_goes_that_was_new_in_an_elder_change(self):
        self.assertEqual(changed(("new", "u", (7,), "d1"), ("gone", "d1")), TABLES)
        self.assertEqual(changed(("new", "u", (5,), "d1"), ("gone", "d1")), TABLES)
        self.raises(BadValue, 1, changed_tables, TABLES, (("gone", "d1"), ("new", "u", (7,), "d1")))

    def test_a_token_goes_whose_rows_have_gone_already(self):
        self.assertEqual(behind("t", ("gone", "a10"), ("gone", "a1"), ("gone", "b1")), (at(("a", 1), "2*a2"),))
        only = (("t", 1, (at((1,), "a1*b1"),)),)
        self.assertEqual(changed_tables(only, (("gone", "a1"), ("gone", "b1"))), (("t", 1, ()),))

    def test_any_changes(self):
        source = random.Random(15)
        for _ in range(200):
            tables = [("t", 2, any_table(source, 2, ("a1", "a10", "b1"))), ("u", 1, any_table(source, 1, ("a1", "c1")))]
            changes, plain = any_changes(source, tables)
            self.assertEqual(changed_tables(tables, changes), tuple(plain))

    def test_changes_are_done_one_behind_the_other(self):
        source = random.Random(151)
        for _ in range(100):
            tables = [("t", 2, any_table(source, 2, ("a1", "a10", "b1"))), ("u", 1, any_table(source, 1, ("a1", "c1")))]
            changes = any_changes(source, tables)[0]
            cut = source.randrange(len(changes) + 1)
            between = changed_tables(tables, changes[:cut])
            stand = {token for _, _, table in between for _, p in table for token in tokens_of(p)}
            if all(change[0] == "new" or change[1] in stand for change in changes[cut:]):
                step = changed_tables(between, changes[cut:])
                self.assertEqual(step, changed_tables(tables, changes))


def any_changes(source, tables):
    """Some changes of these tables, and the tables behind them, made one by one."""
    tables, changes, gone = [tuple(each) for each in tables], [], set()
    known = {token for _, _, table in tables for _, p in table for token in tokens_of(p)}
    for turn in range(source.randrange(7)):
        left = sorted(known - gone)
        if left and source.random() < 0.5:
            token = source.choice(left)
            changes.append(("gone", token))
            gone.add(token)
            tables = [
                (name, width, tuple(
                    (row, replaced(p, [(token, ZERO)])) for row, p in table if replaced(p, [(token, ZERO)])))
                for name, width, table in tables]
            continue
        place, token = source.randrange(len(tables)), f"n{turn + 1}"
        name, width, table = tables[place]
        row = tuple(source.choice((-2, 0, "a", "zz")) for _ in range(width))
        changes.append(("new", name, row, token))
        known.add(token)
        rest = dict(table)
        rest[row] = tuple(sorted(rest.get(row, ()) + of_token(token)))
        tables[place] = (name, width, tuple((each, rest[each]) for each in sorted(rest, key=cells_order)))
    return changes, tables


class WrongChanges(Case):

    good = (("gone", "a1"), ("new", "u", (7,), "d1"))

    def wrong(self, *changes):
        """The changes are refused: by each function, and beside others."""
        self.raises(BadValue, 1, changed_tables, TABLES, changes)
        self.raises(BadValue, 1, changed_tables, as_lists(TABLES), as_lists(changes))
        self.raises(BadValue, 1, changed_tables, TABLES, (("gone", "c1"),) + changes)
        self.raises(BadValue, 2, whatif, T, TABLES, changes)
        self.raises(BadValue, 2, moved, T, TABLES, changes)

    def test_any_value_as_changes(self):
        for value in ANY_VALUES:
            if value not in ((), []):
                self.raises(BadValue, 1, changed_tables, TABLES, value)
                self.raises(BadValue, 2, whatif, T, TABLES, value)
                self.raises(BadValue, 2, moved, T, TABLES, value)
            self.wrong(value)
            self.wrong(self.good[0], self.good[1], value)
        self.raises(BadValue, 1, changed_tables, TABLES, self.good[0])
        self.raises(BadValue, 1, changed_tables, TABLES, deep(lambda part: (part,), ()))
        self.raises(BadValue, 1, changed_tables, TABLES, (deep(lambda part: ("gone", part), "a1"),))

    def test_any_value_in_a_change(self):
        for value in ANY_VALUES:
            for change in (("gone", value), (value, "a1"), ("new", value, (7,), "d1"), ("new", "u", value, "d1"),
                           ("new", "u", (7,), value), (value, "u", (7,), "d1"), ("new", "u", (value, 1), "d1")):
                if change != ("gone", "a1"):
                    self.wrong(change)

    def test_forms(self):
        for change in (
                ("gone",), ("gone", "a1", "a1"), ("gone", "a1", None), ("Gone", "a1"), ("goes", "a1"), ("new", "a1"),
                ("new", "u", (7,)), ("new", "u", (7,), "d1", 1), ("new", "u", 7, "d1"), ("new", "u", "a", "d1"),
                ("New", "u", (7,), "d1"), ("gone", "u", (7,), "d1"), ("new", (7,), "u", "d1"),
                ("new", "u", "d1", (7,)), ("gone", ("a1",)), "gone", ("a1", "gone"), ("new", ("u",), (7,), "d1")):
            self.wrong(change)

    def test_rows_and_tokens(self):
        for token in BAD_TOKENS:
            self.wrong(("new", "u", (7,), token))
            self.wrong(("gone", token))
        for row in BAD_ROWS:
            self.wrong(("new", "u", row, "d1"))
        for cell in BAD_CELLS:
            self.wrong(("new", "u", (cell,), "d1"))
            self.wrong(("new", "t", (1, cell), "d1"))

    def test_a_row_of_another_width(self):
        self.wrong(("new", "u", (7, 7), "d1"))
        self.wrong(("new", "t", (7,), "d1"))
        self.wrong(("new", "t", (7, 7, 7), "d1"))
        self.wrong(("new", "none", (7,), "d1"))

    def test_a_name_that_is_not_there(self):
        for name in ("v", "", "T", "uu", None, 0, ("u",), ["u"]):
            self.wrong(("new", name, (7,), "d1"))
        self.raises(BadValue, 1, changed_tables, (), (("new", "u", (7,), "d1"),))

    def test_a_token_that_never_stood_in_a_table(self):
        self.wrong(("gone", "z1"))
        self.wrong(("gone", "a11"))
        self.wrong(("gone", "d1"), ("new", "u", (7,), "d1"))
        self.raises(BadValue, 1, changed_tables, (), (("gone", "a1"),))

    def test_a_token_that_goes_twice(self):
        self.wrong(("gone", "a1"), ("gone", "a1"))
        self.wrong(("gone", "a1"), ("gone", "b1"), ("gone", "a1"))
        self.wrong(("new", "u", (7,), "d1"), ("gone", "d1"), ("gone", "d1"))

    def test_a_new_token_that_was_there(self):
        self.wrong(("new", "u", (7,), "a1"))
        self.wrong(("new", "u", (7,), "b1"))
        self.wrong(("new", "t", (7, 7), "c1"))
        self.wrong(("new", "u", (7,), "d1"), ("new", "u", (7,), "d1"))
        self.wrong(("new", "u", (7,), "d1"), ("new", "t", (8, 8), "d1"))

    def test_a_token_that_comes_back(self):
        self.wrong(("gone", "a1"), ("new", "u", (7,), "a1"))
        self.wrong(("gone", "a10"), ("new", "t", (2, "a"), "a10"))
        self.wrong(("new", "u", (7,), "d1"), ("gone", "d1"), ("new", "u", (7,), "d1"))

    def test_a_token_of_a_table_that_the_program_does_not_take(self):
        self.raises(BadValue, 2, whatif, U, TABLES, (("new", "u", (7,), "a10"),))
        self.assertEqual(whatif(U, TABLES, (("gone", "a10"),)), OTHER)


class Limits(Case):

    full = (("t", 1, simple(tuple((each,) for each in range(400)))),)
    wide = (("t", 1, (((1,), sum_of(named("a", 400))),)),)
    more = (("new", "t", (990,), "b1"), ("new", "t", (1,), "b2"))

    def test_400_and_401_rows(self):
        self.raises(TooMany, "rows", changed_tables, self.full, self.more[:1])
        self.assertEqual(len(changed_tables(self.full, self.more[1:])[0][2]), 400)
        less = (("t", 1, self.full[0][2][:399]),)
        self.assertEqual(len(changed_tables(less, self.more[:1])[0][2]), 400)

    def test_400_and_401_terms(self):
        self.raises(TooMany, "terms", changed_tables, self.wide, self.more[1:])
        self.assertEqual(len(changed_tables(self.wide, self.more[:1])[0][2]), 2)
        less = (("t", 1, (((1,), sum_of(named("a", 399))),)),)
        self.assertEqual(len(changed_tables(less, self.more[1:])[0][2][0][1]), 400)

    def test_too_many_only_between_two_changes(self):
        self.assertEqual(changed_tables(self.full, (self.more[0], ("gone", "b1"))), self.full)
        self.assertEqual(changed_tables(self.wide, (self.more[1], ("gone", "b2"))), self.wide)
        made = changed_tables(self.full, (self.more[0], ("gone", "a1")))[0][2]
        self.assertEqual((len(made), made[-1]), (400, at((990,), "b1")))
        made = changed_tables(self.wide, (self.more[1], ("gone", "a1")))[0][2]
        self.assertEqual(len(made[0][1]), 400)
        many = tuple(("new", "t", (1000 + each,), f"c{each + 1}") for each in range(300))
        gone = tuple(("gone", f"c{each + 1}") for each in range(300))
        self.assertEqual(changed_tables(self.full, many + gone), self.full)

    def test_tables_that_have_too_many_themselves(self):
        rows = simple(tuple((each,) for each in range(401)))
        self.raises(TooMany, "rows", changed_tables, (("t", 1, rows),), ())
        self.assertEqual(len(changed_tables((("t", 1, rows),), (("gone", "a400"),))[0][2]), 400)
        terms = (((1,), sum_of(named("a", 401))),)
        self.raises(TooMany, "terms", changed_tables, (("t", 1, terms),), ())
        self.assertEqual(len(changed_tables((("t", 1, terms),), (("gone", "a400"),))[0][2][0][1]), 400)
        for heavy in (((), GREATEST + 1),), (((("a1", GREATEST + 1),), 1),):
            self.raises(TooMany, "figures", changed_tables, (("t", 1, (((1,), heavy),)),), ())
        self.assertEqual(changed_tables((("t", 1, (((1,), heavy),)),), (("gone", "a1"),)), (("t", 1, ()),))

    def test_rows_of_all_tables_ahead_of_terms_ahead_of_figures(self):
        rows = ("r", 1, simple(tuple((each,) for each in range(401))))
        terms = ("s", 1, (((1,), sum_of(named("a", 401))),))
        figures = ("t", 1, (((1,), (((), GREATEST + 1),)),))
        self.raises(TooMany, "rows", changed_tables, (figures, terms, rows), ())
        self.raises(TooMany, "rows", changed_tables, (rows, terms, figures), ())
        self.raises(TooMany, "terms", changed_tables, (figures, terms), ())
        self.raises(TooMany, "terms", changed_tables, (terms, figures), ())
        self.raises(TooMany, "figures", changed_tables, (figures,), ())

    def test_wrong_changes_ahead_of_too_many(self):
        self.raises(BadValue, 1, changed_tables, self.full, self.more[:1] + (("gone", "z1"),))
        self.raises(BadValue, 1, changed_tables, self.wide, self.more[1:] + (None,))


class WhatIf(Case):

    sold = tagged((("ann", 3), ("bob", 5), ("ann", 4)), ("a1", "a2", "a3"))
    paid = tagged((("ann", "eve"), ("bob", "joe")), ("b1", "b2"))
    tables = (("t", 2, sold), ("u", 2, paid))
    who = ("pick", ("join", T, U, ((0, 0),)), (0, 3))

    def test_rows_that_go_come_and_stay(self):
        self.assertEqual(run(self.who, self.tables), (at(("ann", "eve"), "a1*b1 + a3*b1"), at(("bob", "joe"), "a2*b2")))
        changes = (("gone", "a2"), ("gone", "a1"), ("new", "u", ("ann", "joe"), "c1"))
        self.assertEqual(whatif(self.who, self.tables, changes), (
            at(("ann", "eve"), "a3*b1"), at(("ann", "joe"), "a3*c1")))
        self.assertEqual(moved(self.who, self.tables, changes), (
            (("ann", "eve"), read_poly("a1*b1 + a3*b1"), read_poly("a3*b1")),
            (("ann", "joe"), ZERO, read_poly("a3*c1")),
            (("bob", "joe"), read_poly("a2*b2"), ZERO)))

    def test_rows_that_stay_as_they_are_did_not_move(self):
        self.assertEqual(moved(self.who, self.tables, (("gone", "b2"),)), ((("bob", "joe"), read_poly("a2*b2"), ZERO),))
        self.assertEqual(moved(self.who, self.tables, (("new", "t", ("zoe", 1), "c1"),)), ())
        self.assertEqual(moved(self.who, self.tables, ()), ())
        self.assertEqual(moved(self.who, self.tables, (("new", "u", ("bob", "joe"), "c1"), ("gone", "c1"))), ())
        self.assertEqual(whatif(self.who, self.tables, ()), run(self.who, self.tables))

    def test_rows_rise(self):
        changes = (("new", "t", (10, "a"), "c1"), ("new", "t", (9, "a"), "c2"), ("new", "t", ("a", "a"), "c3"))
        changes += (("gone", "a1"),)
        self.assertEqual([triple[0] for triple in moved(T, self.tables, changes)], [
            (9, "a"), (10, "a"), ("a", "a"), ("ann", 3)])

    def test_lists(self):
        changes = (("gone", "a2"), ("new", "u", ("ann", "joe"), "c1"))
        for call in (whatif, moved):
            self.assertEqual(call(*as_lists((self.who, self.tables, changes))), call(self.who, self.tables, changes))

    def test_it_is_run_of_the_changed_tables(self):
        source = random.Random(16)
        widths = {"t": 2, "u": 1}
        for _ in range(150):
            tables = [("t", 2, any_table(source, 2, ("a1", "a10", "b1"))), ("u", 1, any_table(source, 1, ("a1", "c1")))]
            program, _ = any_program(source, widths, source.randint(1, 8))
            changes = any_changes(source, tables)[0]
            try:
                ahead, told = run(program, tables), whatif(program, tables, changes)
            except TooMany:
                continue
            self.assertEqual(told, run(program, changed_tables(tables, changes)))
            rows = sorted(set(rows_of(ahead)) | set(rows_of(told)), key=cells_order)
            triples = [(row, poly_at(ahead, row), poly_at(told, row)) for row in rows]
            triples = tuple(triple for triple in triples if triple[1] != triple[2])
            self.assertEqual(moved(program, tables, changes), triples)

    def test_changes_that_only_take_away_are_replaced_by_zero(self):
        source = random.Random(161)
        for _ in range(100):
            tables = [("t", 2, any_table(source, 2, ("a1", "a10", "b1"))), ("u", 1, any_table(source, 1, ("a1", "c1")))]
            program, _ = any_program(source, {"t": 2, "u": 1}, 6)
            stand = {token for _, _, table in tables for _, p in table for token in tokens_of(p)}
            gone = [token for token in sorted(stand) if source.random() < 0.4]
            try:
                triples = moved(program, tables, [("gone", token) for token in gone])
            except TooMany:
                continue
            for _, p, q in triples:
                self.assertEqual(q, replaced(p, [(token, ZERO) for token in gone]))


class Sequence(Case):
    """Which error is told first: run of the tables as they are, the changes', run of the new ones."""

    rows = ("t", 1, simple(tuple((each,) for each in range(401))))
    full = ("t", 1, simple(tuple((each,) for each in range(400))))
    other = ("u", 1, (at((1,), "b1"),))
    wrong = (("gone", "z1"),)

    def told(self, error, argument, program, tables, changes):
        for call in (whatif, moved):
            self.raises(error, argument, call, program, tables, changes)

    def test_a_wrong_program_is_first(self):
        for program in (None, ("take", "v"), ("pick", T, (1,)), deep(lambda part: ("pick", part, (0,)), T)):
            self.told(BadProgram, 0, program, (self.rows,), self.wrong)
            self.told(BadProgram, 0, program, (self.full,), None)

    def test_run_of_the_tables_as_they_are(self):
        self.told(TooMany, "rows", T, (self.rows,), self.wrong)
        self.told(TooMany, "rows", T, (self.rows,), None)
        self.told(TooMany, "rows", T, (self.rows,), (("gone", "a1"),))
        self.told(TooMany, "rows", ("join", T, T, ()), (self.full,), self.wrong)

    def test_then_the_changes(self):
        self.told(BadValue, 2, T, (self.full,), (("new", "t", (990,), "c1"),) + self.wrong)
        self.told(BadValue, 2, U, (self.rows, self.other), self.wrong)

    def test_then_the_tables_behind_them(self):
        self.told(TooMany, "rows", T, (self.full,), (("new", "t", (990,), "c1"),))
        # A table that the program does not take counts, too.
        self.told(TooMany, "rows", U, (self.rows, self.other), ())
        self.assertEqual(whatif(U, (self.rows, self.other), (("gone", "a1"),)), self.other[2])
        terms = ("u", 1, (((1,), sum_of(named("b", 400))),))
        self.told(TooMany, "terms", ("join", T, U, ((0, 0),)), (self.full, terms), (("new", "u", (1,), "c1"),))

    def test_then_run_of_the_new_ones(self):
        twenty = ("t", 1, simple(tuple((each,) for each in range(20))))
        square = ("join", T, T, ())
        self.assertEqual(len(whatif(square, (twenty,), (("new", "t", (3,), "b1"),))), 400)
        self.told(TooMany, "rows", square, (twenty,), (("new", "t", (30,), "b1"),))
        self.told(TooMany, "terms", ("pick", ("take", "w"), (0,)), (
            ("w", 2, (((1, 1), sum_of(named("a", 399))), ((1, 2), of_token("b1")))),), (("new", "w", (1, 3), "c1"),))
        heavy = ("w", 2, (((1, 1), (((), GREATEST),)), ((2, 2), ONE)))
        self.assertEqual(len(whatif(("pick", ("take", "w"), (0,)), (heavy,), (("new", "w", (1, 2), "c1"),))), 2)


if __name__ == "__main__":
    unittest.main()
