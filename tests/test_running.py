"""[11]: running programs, on tagged and on measured tables."""

import random
import unittest

from making import (
    GREATEST, Case, any_program, any_table, as_lists, deep, named, plain_run, plain_table, powers, simple, sum_of,
    triple)
from ledgertrace.errors import BadProgram, TooMany
from ledgertrace.measures import MEASURES, measured_zero
from ledgertrace.polys import ONE, of_token, read_poly, times
from ledgertrace.programs import width_of
from ledgertrace.running import run, run_measured
from ledgertrace.tables import rows_of, table_valued

T = ("take", "t")
U = ("take", "u")
COUNT_4000 = 10 ** 4000 - 1


def rows(program, *tables):
    return rows_of(run(program, tables))


def cells(program, *tables):
    """The cells of the rows, which are of width 1."""
    return tuple(row[0] for row in rows(program, *tables))


def at(row, text):
    return (row, read_poly(text))


class EachKind(Case):

    sold = triple("t", simple((("ann", 3), ("bob", 5), ("ann", 4), (7, "ann"))))
    paid = triple("u", simple((("ann", "eve"), ("bob", "eve"), (3, 3)), "b"))

    def test_take(self):
        self.assertEqual(run(T, (self.sold, self.paid)), self.sold[2])
        self.assertEqual(run(U, (self.sold, self.paid)), self.paid[2])
        self.assertEqual(run(T, (("t", 4, ()),)), ())

    def test_keep(self):
        keep = ("keep", T, (("col", 0), "=", ("val", "ann")))
        self.assertEqual(run(keep, (self.sold,)), (at(("ann", 3), "a1"), at(("ann", 4), "a3")))
        keep = ("keep", T, (("val", 3), "<", ("col", 1)))
        self.assertEqual(rows(keep, self.sold), ((7, "ann"), ("ann", 4), ("bob", 5)))
        self.assertEqual(rows(("keep", U, (("col", 0), "=", ("col", 1))), self.paid), ((3, 3),))
        self.assertEqual(rows(("keep", U, (("col", 1), "!", ("col", 0))), self.paid), (("ann", "eve"), ("bob", "eve")))

    def test_keep_by_cells_alone(self):
        for left, sign, right, holds in (
                (1, "=", 1, True), (1, "=", 2, False), (1, "!", 1, False), (1, "!", "a", True), (1, "<", 2, True),
                (2, "<", 1, False), (1, "<", 1, False), (9999, "<", "a", True), ("a", "<", -9999, False)):
            keep = ("keep", T, (("val", left), sign, ("val", right)))
            self.assertEqual(run(keep, (self.sold,)), self.sold[2] if holds else ())

    def test_keep_with_each_sign_by_the_order_of_cells(self):
        order = (-9999, -10, -9, 0, 2, 10, 9999, "a", "aa", "ab", "b", "ba", "z")
        table = ("t", 1, simple(tuple((cell,) for cell in order)))
        for place, cell in enumerate(order):
            for sign, less, more in (("<", order[:place], order[place + 1:]), ("=", (cell,), (cell,)),
                                     ("!", order[:place] + order[place + 1:], order[:place] + order[place + 1:])):
                self.assertEqual(cells(("keep", T, (("col", 0), sign, ("val", cell))), table), less)
                self.assertEqual(cells(("keep", T, (("val", cell), sign, ("col", 0))), table), more)

    def test_pick(self):
        self.assertEqual(run(("pick", T, (0,)), (self.sold,)), (
            at((7,), "a4"), at(("ann",), "a1 + a3"), at(("bob",), "a2")))
        self.assertEqual(rows(("pick", T, (1, 0, 1)), self.sold), (
            (3, "ann", 3), (4, "ann", 4), (5, "bob", 5), ("ann", 7, "ann")))
        twice = ("t", 2, (at((1, 1), "2*a1"), at((1, 2), "1 + 3*a1")))
        self.assertEqual(run(("pick", T, (0,)), (twice,)), (at((1,), "1 + 5*a1"),))

    def test_join(self):
        join = ("join", T, U, ((0, 0),))
        self.assertEqual(run(join, (self.sold, self.paid)), (
            at(("ann", 3, "ann", "eve"), "a1*b1"), at(("ann", 4, "ann", "eve"), "a3*b1"),
            at(("bob", 5, "bob", "eve"), "a2*b2")))
        self.assertEqual(rows(("join", T, U, ((1, 0), (0, 1))), self.sold, self.paid), ())
        self.assertEqual(rows(("join", T, U, ((1, 0), (1, 1))), self.sold, self.paid), (("ann", 3, 3, 3),))
        self.assertEqual(rows(("join", T, U, ((1, 0), (1, 1), (1, 1))), self.sold, self.paid), (("ann", 3, 3, 3),))

    def test_join_without_pairs(self):
        made = run(("join", T, U, ()), (self.sold, self.paid))
        self.assertEqual(len(made), 12)
        self.assertEqual(made[0], at((7, "ann", 3, 3), "a4*b3"))
        self.assertEqual(made[-1], at(("bob", 5, "bob", "eve"), "a2*b2"))
        self.assertEqual(run(("join", T, U, ()), (self.sold, ("u", 2, ()))), ())

    def test_join_with_itself(self):
        made = run(("join", T, T, ((0, 0), (1, 1))), (self.sold,))
        self.assertEqual(made[0], at((7, "ann", 7, "ann"), "a4^2"))
        self.assertEqual(len(made), 4)
        two = ("t", 1, (at((1,), "a1 + b1"),))
        self.assertEqual(run(("join", T, T, ()), (two,)), (at((1, 1), "2*a1*b1 + a1^2 + b1^2"),))

    def test_words_and_integers_never_meet(self):
        one, other = ("t", 1, simple(((1,), ("a",)))), ("u", 1, simple((("a",), (2,)), "b"))
        self.assertEqual(run(("join", T, U, ((0, 0),)), (one, other)), (at(("a", "a"), "a2*b1"),))

    def test_join_of_6_and_of_7_cells(self):
        three, four = ("t", 3, simple(((1, 2, 3),))), ("u", 4, simple(((1, 2, 3, 4),), "b"))
        self.assertEqual(run(("join", T, T, ((2, 2),)), (three,)), (at((1, 2, 3, 1, 2, 3), "a1^2"),))
        self.raises(BadProgram, 0, run, ("join", T, U, ((0, 0),)), (three, four))

    def test_both(self):
        other = ("u", 2, (at((7, "ann"), "a4"), at(("ann", 4), "b2 + c1"), at(("zoe", 1), "3*d1")))
        self.assertEqual(run(("both", T, U), (self.sold, other)), (
            at((7, "ann"), "2*a4"), at(("ann", 3), "a1"), at(("ann", 4), "a3 + b2 + c1"), at(("bob", 5), "a2"),
            at(("zoe", 1), "3*d1")))
        self.assertEqual(run(("both", T, U), (self.sold, ("u", 2, ()))), self.sold[2])
        self.assertEqual(run(("both", U, T), (self.sold, ("u", 2, ()))), self.sold[2])

    def test_make(self):
        table = ("t", 2, simple(((5, -3), (-2, 9), (4, 4))))
        for kind, made in (("sum", (7, 8, 2)), ("less", (-11, 0, 8)), ("least", (-2, 4, -3)), ("most", (9, 4, 5))):
            self.assertEqual(rows(("make", T, (kind, 0, 1)), table), (
                (-2, 9, made[0]), (4, 4, made[1]), (5, -3, made[2])))
        self.assertEqual(rows(("make", T, ("less", 1, 0)), table), ((-2, 9, 11), (4, 4, 0), (5, -3, -8)))
        self.assertEqual(rows(("make", T, ("sum", 1, 1)), table), ((-2, 9, 18), (4, 4, 8), (5, -3, -6)))
        self.assertEqual(run(("make", T, ("most", 0, 1)), (table,))[0], at((-2, 9, 9), "a2"))

    def test_make_leaves_rows_out(self):
        table = ("t", 2, simple((("a", 1), (1, "a"), ("a", "b"), (1, 2))))
        for kind, cell in (("sum", 3), ("less", -1), ("least", 1), ("most", 2)):
            self.assertEqual(run(("make", T, (kind, 0, 1)), (table,)), (at((1, 2, cell), "a4"),))
        self.assertEqual(rows(("make", T, ("sum", 0, 0)), table), ((1, 2, 2), (1, "a", 2)))

    def test_make_of_what_would_be_no_cell(self):
        table = ("t", 2, simple((
            (9999, 0), (9999, 1), (-9999, -1), (-9999, 1), (-9999, 9999), (5000, 4999), (5000, 5000))))
        self.assertEqual(rows(("make", T, ("sum", 0, 1)), table), (
            (-9999, 1, -9998), (-9999, 9999, 0), (5000, 4999, 9999), (9999, 0, 9999)))
        self.assertEqual(rows(("make", T, ("less", 0, 1)), table), (
            (-9999, -1, -9998), (5000, 4999, 1), (5000, 5000, 0), (9999, 0, 9999), (9999, 1, 9998)))
        self.assertEqual(len(rows(("make", T, ("most", 0, 1)), table)), 7)

    def test_any_program_makes_what_a_plain_one_makes(self):
        source = random.Random(11)
        widths = {"t": 2, "u": 1, "v": 3}
        for _ in range(300):
            program, _ = any_program(source, widths, source.randint(1, 8))
            tables = [(name, widths[name], any_table(source, widths[name], ("a1", "a10", "b2"))) for name in widths]
            try:
                made = run(program, tables)
            except TooMany:
                continue
            self.assertEqual(made, plain_table(plain_run(program, tables)))
            self.assertEqual(run(as_lists(program), as_lists(tables)), made)

    def test_the_example(self):
        self.assertEqual(run(("pick", ("take", "sold"), (0,)), (("sold", 2, simple((("ann", 3), ("bob", 5)))),)), (
            (("ann",), (((("a1", 1),), 1),)), (("bob",), (((("a2", 1),), 1),))))


class WrongPrograms(Case):

    def test_no_programs(self):
        table = ("t", 1, simple(((1,),)))
        for program in (None, (), "take t", ("take",), ("take", "v"), ("pick", T, (1,)), ("both", T, U),
                        ("pick", T, ())):
            self.raises(BadProgram, 0, run, program, (table,))
            self.raises(BadProgram, 0, run_measured, program, (("t", 1, (((1,), 4),)),), "count", ())
        self.raises(BadProgram, 0, run, deep(lambda part: ("pick", part, (0,)), T), (table,))

    def test_20_and_21_nodes(self):
        program = T
        for _ in range(19):
            program = ("pick", program, (0,))
        table = ("t", 1, simple(((1,),)))
        self.assertEqual(run(program, (table,)), table[2])
        self.raises(BadProgram, 0, run, ("pick", program, (0,)), (table,))

    def test_ahead_of_too_many(self):
        table = ("t", 1, simple(tuple((each,) for each in range(401))))
        self.raises(BadProgram, 0, run, ("pick", T, (1,)), (table,))
        self.raises(BadProgram, 0, run, ("join", T, U, ()), (table,))
        self.raises(TooMany, "rows", run, ("pick", T, (0,)), (table,))


class Limits(Case):

    def numbers(self, name, many, first=0, letter="a"):
        return (name, 1, simple(tuple((first + each,) for each in range(many)), letter))

    def test_rows_of_a_join(self):
        one, other = self.numbers("t", 20), self.numbers("u", 20, 0, "b")
        self.assertEqual(len(run(("join", T, U, ()), (one, other))), 400)
        self.raises(TooMany, "rows", run, ("join", T, U, ()), (one, self.numbers("u", 21)))
        self.assertEqual(len(run(("join", T, U, ((0, 0),)), (one, self.numbers("u", 400)))), 20)
        self.raises(TooMany, "rows", run, ("join", T, U, ()), (self.numbers("t", 400), self.numbers("u", 400)))
        self.raises(TooMany, "rows", run, ("join", T, U, ()), (self.numbers("t", 1), self.numbers("u", 401)))
        same = ("t", 2, simple(tuple((1, each) for each in range(401))[:400]))
        self.assertEqual(len(run(("join", T, U, ((0, 0),)), (same, self.numbers("u", 2)))), 400)
        two = ("u", 2, simple(((1, 0), (1, 1)), "b"))
        self.raises(TooMany, "rows", run, ("join", T, U, ((0, 0),)), (same, two))

    def test_rows_of_both(self):
        one = self.numbers("t", 200)
        self.assertEqual(len(run(("both", T, U), (one, self.numbers("u", 200, 200)))), 400)
        self.raises(TooMany, "rows", run, ("both", T, U), (one, self.numbers("u", 201, 200)))
        self.assertEqual(len(run(("both", T, U), (self.numbers("t", 400), self.numbers("u", 400)))), 400)

    def test_a_table_that_is_taken_and_has_too_many(self):
        self.assertEqual(len(run(T, (self.numbers("t", 400),))), 400)
        self.raises(TooMany, "rows", run, T, (self.numbers("t", 401),))
        keep = ("keep", T, (("col", 0), "=", ("val", 1)))
        self.raises(TooMany, "rows", run, keep, (self.numbers("t", 401),))
        wide = (((1,), sum_of(named("a", 401))), ((2,), of_token("a1")))
        self.raises(TooMany, "terms", run, T, (("t", 1, wide),))
        self.assertEqual(run(T, (("t", 1, wide[1:]),)), wide[1:])
        for heavy in (((), GREATEST + 1),), (((("a1", GREATEST + 1),), 1),):
            self.raises(TooMany, "figures", run, T, (("t", 1, (((1,), heavy),)),))
            self.raises(TooMany, "figures", run, keep, (("t", 1, (((2,), heavy),)),))
        for least in (((), GREATEST),), (((("a1", GREATEST),), 1),):
            self.assertEqual(run(T, (("t", 1, (((1,), least),)),)), (((1,), least),))

    def test_a_table_that_nothing_takes(self):
        tables = (self.numbers("t", 3), self.numbers("u", 500), ("v", 1, (((1,), sum_of(named("a", 500))),)))
        self.assertEqual(run(T, tables), tables[0][2])
        self.assertEqual(run_measured(T, (("t", 1, (((1,), 5),)), ("u", 1, (((1,), COUNT_4000 + 1),))), "count", ()), (
            ((1,), 5),))

    def test_terms_of_a_pick_and_of_both(self):
        full, more = sum_of(named("a", 400)), sum_of(named("b", 1))
        table = ("t", 2, (((1, 1), full[:200]), ((1, 2), full[200:])))
        self.assertEqual(run(("pick", T, (0,)), (table,)), (((1,), full),))
        self.assertEqual(run(("pick", T, (0,)), (("t", 2, table[2] + (((1, 3), full),)),)), (
            ((1,), tuple((monomial, 2) for monomial, _ in full)),))
        self.raises(TooMany, "terms", run, ("pick", T, (0,)), (("t", 2, table[2] + (((1, 3), more),)),))
        self.assertEqual(len(run(("both", T, U), (("t", 1, (((1,), full),)), ("u", 1, (((2,), more),))))), 2)
        self.raises(TooMany, "terms", run, ("both", T, U), (("t", 1, (((1,), full),)), ("u", 1, (((1,), more),))))

    def test_terms_of_a_join(self):
        one, other = ("t", 1, (((1,), powers("a1", 200)),)), ("u", 1, (((1,), powers("a1", 201)),))
        self.assertEqual(len(run(("join", T, U, ()), (one, other))[0][1]), 400)
        self.raises(TooMany, "terms", run, ("join", T, U, ()), (one, ("u", 1, (((1,), powers("a1", 202)),))))
        self.assertEqual(run(("join", T, U, ()), (one, ("u", 1, (((1,), ONE),)))), (((1, 1), powers("a1", 200)),))

    def test_figures(self):
        heavy = ("t", 2, (((1, 1), (((), GREATEST),)), ((1, 2), of_token("a1"))))
        self.assertEqual(run(("pick", T, (0,)), (heavy,)), (((1,), (((), GREATEST), ((("a1", 1),), 1))),))
        heavy = ("t", 2, (((1, 1), (((), GREATEST),)), ((1, 2), ONE)))
        self.raises(TooMany, "figures", run, ("pick", T, (0,)), (heavy,))
        self.raises(TooMany, "figures", run, ("both", T, T), (("t", 1, (((1,), (((), GREATEST),)),)),))
        square = ("t", 1, (((1,), (((("a1", 10 ** 99),), 10 ** 49),)),))
        made = run(("join", T, T, ()), (square,))
        self.assertEqual(made, (((1, 1), (((("a1", 2 * 10 ** 99),), 10 ** 98),)),))
        square = ("t", 1, (((1,), (((("a1", 5 * 10 ** 99),), 1),)),))
        self.raises(TooMany, "figures", run, ("join", T, T, ()), (square,))
        square = ("t", 1, (((1,), (((), 10 ** 50),)),))
        self.raises(TooMany, "figures", run, ("join", T, T, ()), (square,))

    def test_rows_ahead_of_terms_ahead_of_figures(self):
        full, heavy = sum_of(named("a", 401)), (((), GREATEST + 1),)
        few = tuple(((each,), ONE) for each in range(399))
        for first, second in ((full, heavy), (heavy, full)):
            self.raises(TooMany, "terms", run, T, (("t", 1, few[:3] + (((990,), first), ((991,), second))),))
            self.raises(TooMany, "rows", run, T, (("t", 1, few + (((990,), first), ((991,), second))),))
            self.raises(TooMany, "figures", run, T, (("t", 1, few + (((990,), heavy),)),))

    def test_of_all_rows_terms_ahead_of_figures_in_each_kind(self):
        full, heavy = sum_of(named("a", 400)), (((), GREATEST),)
        for one, other in (((1,), (2,)), ((2,), (1,))):
            parts = sorted(((one, full), (other, heavy)))
            both = ("both", T, U)
            tables = (("t", 1, parts), ("u", 1, sorted(((one, of_token("b1")), (other, ONE)))))
            self.raises(TooMany, "terms", run, both, tables)
            self.raises(TooMany, "figures", run, both, (tables[0], ("u", 1, ((other, ONE),))))
            twice = tuple(((row[0], at), p) for row, p in parts for at in (0, 1))
            twice = tuple((row, of_token("b1") if row[1] and p == full else p) for row, p in twice)
            self.raises(TooMany, "terms", run, ("pick", T, (0,)), (("t", 2, twice),))
            squares = sorted(((one, sum_of(named("a", 29))), (other, (((), 10 ** 60),))))
            self.raises(TooMany, "terms", run, ("join", T, T, ((0, 0),)), (("t", 1, squares),))
            squares = sorted(((one, sum_of(named("a", 5))), (other, (((), 10 ** 60),))))
            self.raises(TooMany, "figures", run, ("join", T, T, ((0, 0),)), (("t", 1, squares),))

    def test_rows_ahead_of_all_in_a_join_and_in_both(self):
        many = tuple(((each,), powers("a1", 300, 10 ** 60)) for each in range(21))
        self.raises(TooMany, "rows", run, ("join", T, T, ()), (("t", 1, many),))
        self.raises(TooMany, "terms", run, ("join", T, T, ()), (("t", 1, many[:20]),))
        one = tuple(((each,), powers("a1", 300, GREATEST)) for each in range(201))
        other = tuple(((each,), powers("b1", 300, GREATEST)) for each in range(200, 401))
        self.raises(TooMany, "rows", run, ("both", T, U), (("t", 1, one), ("u", 1, other)))
        self.raises(TooMany, "terms", run, ("both", T, U), (("t", 1, one), ("u", 1, other[:-1])))

    def test_parts_from_the_leaves_up_the_first_ahead_of_the_second(self):
        rows_, terms = self.numbers("t", 401), ("u", 1, (((1,), sum_of(named("a", 401))),))
        figures = ("v", 1, (((1,), (((), GREATEST + 1),)),))
        tables = (figures, terms, rows_)
        words = {"t": "rows", "u": "terms", "v": "figures"}
        for one in "tuv":
            for other in "tuv":
                first, second = ("take", one), ("take", other)
                for program in (("both", first, second), ("join", first, second, ()),
                                ("both", ("pick", ("pick", first, (0,)), (0,)), second),
                                ("both", first, ("pick", ("pick", second, (0,)), (0,)))):
                    self.raises(TooMany, words[one], run, program, tables)

    def test_a_part_ahead_of_the_node_and_of_later_leaves(self):
        tables = (self.numbers("t", 21), ("u", 2, (((1, 1), sum_of(named("a", 401))),)))
        square = ("join", T, T, ())
        self.raises(TooMany, "rows", run, ("both", square, U), tables)
        self.raises(TooMany, "terms", run, ("both", U, square), tables)
        self.raises(TooMany, "rows", run, ("pick", square, (0,)), tables)
        # What a later node leaves out is looked at all the same.
        self.raises(TooMany, "rows", run, ("keep", square, (("col", 0), "=", ("col", 1))), tables)

    def test_many_terms_are_told_soon(self):
        table = ("t", 1, tuple(((each,), sum_of(named("a", 400))) for each in range(20)))
        self.raises(TooMany, "terms", run, ("join", T, T, ()), (table,))
        table = ("t", 2, tuple(((1, each), sum_of(named("abcdefgh"[each % 8], 400))) for each in range(400)))
        self.raises(TooMany, "terms", run, ("pick", T, (0,)), (table,))


class Measured(Case):

    everyone = ("ann", "bob", "eve")
    one = {"count": 3, "cost": 3, "trust": 30, "there": True, "seen": ("ann", "eve")}
    other = {"count": 5, "cost": 5, "trust": 50, "there": True, "seen": ("bob", "eve")}
    plus = {"count": 8, "cost": 3, "trust": 50, "there": True, "seen": ("ann", "bob", "eve")}
    times = {"count": 15, "cost": 8, "trust": 30, "there": True, "seen": ("eve",)}

    def test_each_measure(self):
        for measure in MEASURES:
            one, other = self.one[measure], self.other[measure]
            tables = (("t", 2, (((1, 1), one), ((1, 2), other))), ("u", 1, (((1,), other), ((2,), one))))
            for program, made in (
                    (T, (((1, 1), one), ((1, 2), other))),
                    (("keep", T, (("col", 0), "<", ("col", 1))), (((1, 2), other),)),
                    (("pick", T, (0,)), (((1,), self.plus[measure]),)),
                    (("both", U, ("pick", T, (1,))), (((1,), self.plus[measure]), ((2,), self.plus[measure]))),
                    (("make", T, ("sum", 0, 1)), (((1, 1, 2), one), ((1, 2, 3), other))),
                    (("join", T, U, ((1, 0),)), (
                        ((1, 1, 1), self.times[measure]), ((1, 2, 2), self.times[measure])))):
                self.assertEqual(run_measured(program, tables, measure, self.everyone), made)
                lists = as_lists((program, tables, measure, self.everyone))
                self.assertEqual(run_measured(*lists), made)

    def test_zero_is_left_out_and_not_counted(self):
        one = ("t", 1, tuple(((each,), ("ann",)) for each in range(30)))
        other = ("u", 1, tuple(((each,), ("bob",) if each else ("ann", "bob")) for each in range(30)))
        made = run_measured(("join", T, U, ()), (one, other), "seen", self.everyone)
        self.assertEqual(made, tuple(((each, 0), ("ann",)) for each in range(30)))
        other = ("u", 1, tuple(((each,), ("ann",)) for each in range(14)))
        self.raises(TooMany, "rows", run_measured, ("join", T, U, ()), (one, other), "seen", self.everyone)

    def test_zero_is_left_out_in_each_part(self):
        one = ("t", 1, (((1,), ("ann",)), ((2,), ("ann", "bob"))))
        other = ("u", 1, (((1,), ("bob",)), ((2,), ("bob",))))
        join = ("join", T, U, ((0, 0),))
        self.assertEqual(run_measured(join, (one, other), "seen", self.everyone), (((2, 2), ("bob",)),))
        self.assertEqual(run_measured(("pick", join, (0,)), (one, other), "seen", self.everyone), (((2,), ("bob",)),))

    def test_values_that_are_not_zero_though_they_are_false(self):
        table = ("t", 1, (((1,), 0),))
        self.assertEqual(run_measured(T, (table,), "cost", ()), (((1,), 0),))
        self.assertEqual(run_measured(("join", T, T, ()), (table,), "cost", ()), (((1, 1), 0),))

    def test_rows(self):
        for measure in MEASURES:
            value = self.one[measure]
            table = ("t", 1, tuple(((each,), value) for each in range(401)))
            less = ("t", 1, table[2][:400])
            self.raises(TooMany, "rows", run_measured, T, (table,), measure, self.everyone)
            self.assertEqual(run_measured(T, (less,), measure, self.everyone), less[2])
            self.raises(TooMany, "rows", run_measured, ("join", T, T, ()), (less,), measure, self.everyone)
            tables = (less, ("u", 1, (((400,), value),)))
            self.raises(TooMany, "rows", run_measured, ("both", T, U), tables, measure, self.everyone)

    def test_counts_of_4000_and_of_4001_figures(self):
        full, more = ("t", 1, (((1,), COUNT_4000),)), ("t", 1, (((1,), COUNT_4000 + 1),))
        self.assertEqual(run_measured(T, (full,), "count", ()), (((1,), COUNT_4000),))
        self.raises(TooMany, "figures", run_measured, T, (more,), "count", ())
        self.raises(TooMany, "figures", run_measured, ("keep", T, (("col", 0), "=", ("val", 2))), (more,), "count", ())
        unit = ("u", 1, (((1,), 1),))
        self.raises(TooMany, "figures", run_measured, ("both", T, U), (full, unit), "count", ())
        self.assertEqual(run_measured(("join", T, U, ()), (full, unit), "count", ()), (((1, 1), COUNT_4000),))
        ten = ("u", 1, (((1,), 10),))
        self.raises(TooMany, "figures", run_measured, ("join", T, U, ()), (full, ten), "count", ())
        two = ("t", 2, (((1, 1), COUNT_4000 - 1), ((1, 2), 1)))
        self.assertEqual(run_measured(("pick", T, (0,)), (two,), "count", ()), (((1,), COUNT_4000),))
        two = ("t", 2, (((1, 1), COUNT_4000), ((1, 2), 1)))
        self.raises(TooMany, "figures", run_measured, ("pick", T, (0,)), (two,), "count", ())
        self.assertEqual(run_measured(T, (more,), "cost", ()), more[2])

    def test_rows_of_a_part_ahead_of_figures(self):
        many = tuple(((each,), COUNT_4000 + 1) for each in range(401))
        self.raises(TooMany, "rows", run_measured, T, (("t", 1, many),), "count", ())
        self.raises(TooMany, "figures", run_measured, T, (("t", 1, many[:400]),), "count", ())
        tables = (("t", 1, many[:1]), ("u", 1, tuple(((each,), 1) for each in range(401))))
        self.raises(TooMany, "figures", run_measured, ("both", T, U), tables, "count", ())
        self.raises(TooMany, "rows", run_measured, ("both", U, T), tables, "count", ())

    def test_terms_are_not_looked_at(self):
        square = ("join", T, T, ())
        full = ("t", 1, (((1,), sum_of(named("a", 400))),))
        self.raises(TooMany, "terms", run, square, (full,))
        given = tuple((token, 1) for token in named("a", 400))
        values = ("t", 1, table_valued(full[2], "count", given))
        self.assertEqual(run_measured(square, (values,), "count", ()), (((1, 1), 160000),))

    def any_given(self, source, measure, tokens):
        values = {
            "count": lambda: source.randrange(4), "cost": lambda: source.choice((None, 0, 1, 5)),
            "trust": lambda: source.choice((0, 1, 50, 100)), "there": lambda: source.random() < 0.6,
            "seen": lambda: tuple(person for person in self.everyone if source.random() < 0.5)}
        given = [(token, values[measure]()) for token in tokens]
        return given + [("", self.everyone)] if measure == "seen" else given

    def test_valuing_what_run_makes_is_running_the_valued(self):
        source = random.Random(111)
        widths = {"t": 2, "u": 1, "v": 3}
        tokens = ("a1", "a10", "b2")
        for turn in range(400):
            measure = MEASURES[turn % 5]
            program, _ = any_program(source, widths, source.randint(1, 8))
            tables = [(name, widths[name], any_table(source, widths[name], tokens)) for name in widths]
            given = self.any_given(source, measure, tokens)
            zero = measured_zero(measure, self.everyone)
            cut = [
                (name, width, tuple(pair for pair in table_valued(table, measure, given) if pair[1] != zero))
                for name, width, table in tables]
            try:
                made = table_valued(run(program, tables), measure, given)
                measured = run_measured(program, cut, measure, self.everyone)
            except TooMany:
                continue
            self.assertEqual(measured, tuple(pair for pair in made if pair[1] != zero))
            for _, value in measured:
                self.assertIs(type(value), type(self.one[measure]))


class Widths(Case):

    def test_what_is_made_has_the_width_that_is_told(self):
        source = random.Random(1)
        widths = {"t": 2, "u": 1}
        for _ in range(100):
            program, _ = any_program(source, widths, 6)
            tables = [(name, widths[name], any_table(source, widths[name], ("a1", "b1"))) for name in widths]
            for row in rows(program, *tables):
                self.assertEqual(len(row), width_of(program, tuple(widths.items())))

    def test_products_of_polynomials(self):
        p, q = read_poly("1 + 2*a1"), read_poly("a1 + b1")
        tables = (("t", 1, (((1,), p),)), ("u", 1, (((1,), q),)))
        self.assertEqual(run(("join", T, U, ((0, 0),)), tables), (((1, 1), times(p, q)),))


if __name__ == "__main__":
    unittest.main()
