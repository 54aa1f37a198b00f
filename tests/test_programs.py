"""[10]: programs, their widths, their texts."""

import random
import unittest

from making import ANY_VALUES, BAD_CELLS, GOOD_CELLS, Case, any_program, as_lists, deep
from ledgertrace.errors import BadProgram
from ledgertrace.programs import program_text, read_program, width_of

T = ("take", "t")
U = ("take", "u")
WIDTHS = (("t", 3), ("u", 2), ("wide", 6), ("thin", 1), ("abcdefgh", 4))
ALWAYS = (("val", 1), "=", ("val", 1))

# Programs, their widths, their texts.
PROGRAMS = (
    (T, 3, "take t"),
    (("take", "abcdefgh"), 4, "take abcdefgh"),
    (("keep", T, (("col", 0), "<", ("val", -5))), 3, "keep(take t, #0 < -5)"),
    (("keep", T, (("val", "ann"), "=", ("col", 2))), 3, "keep(take t, ann = #2)"),
    (("keep", T, (("col", 1), "!", ("col", 1))), 3, "keep(take t, #1 ! #1)"),
    (("keep", T, (("val", 0), "<", ("val", "sum"))), 3, "keep(take t, 0 < sum)"),
    (("keep", T, (("val", 9999), "!", ("val", -9999))), 3, "keep(take t, 9999 ! -9999)"),
    (("pick", T, (0, 0, 1)), 3, "pick(take t, 0 0 1)"),
    (("pick", T, (2,)), 1, "pick(take t, 2)"),
    (("pick", ("take", "thin"), (0,) * 6), 6, "pick(take thin, 0 0 0 0 0 0)"),
    (("pick", ("take", "wide"), (5, 4, 3, 2, 1, 0)), 6, "pick(take wide, 5 4 3 2 1 0)"),
    (("join", T, U, ((0, 1), (2, 0))), 5, "join(take t, take u, 0=1 2=0)"),
    (("join", T, U, ()), 5, "join(take t, take u)"),
    (("join", T, T, ((0, 0),)), 6, "join(take t, take t, 0=0)"),
    (("join", U, U, ((0, 0),) * 8), 4, "join(take u, take u, 0=0 0=0 0=0 0=0 0=0 0=0 0=0 0=0)"),
    (("both", T, T), 3, "both(take t, take t)"),
    (("both", T, ("pick", U, (0, 1, 1))), 3, "both(take t, pick(take u, 0 1 1))"),
    (("make", T, ("sum", 0, 1)), 4, "make(take t, sum 0 1)"),
    (("make", T, ("less", 2, 2)), 4, "make(take t, less 2 2)"),
    (("make", U, ("least", 1, 0)), 3, "make(take u, least 1 0)"),
    (("make", ("make", T, ("most", 0, 1)), ("sum", 3, 3)), 5, "make(make(take t, most 0 1), sum 3 3)"),
    (("join", ("keep", T, (("col", 2), "=", ("val", "a"))), ("both", U, U), ((2, 1),)), 5,
     "join(keep(take t, #2 = a), both(take u, take u), 2=1)"),
)


def chain(many):
    """A program of so many nodes, each in the next one."""
    program = T
    for _ in range(many - 1):
        program = ("keep", program, ALWAYS)
    return program


def tree(many):
    """A program of so many (an odd number of) nodes, two in each."""
    program = T
    for at in range(many // 2):
        program = ("both", program, T) if at & 1 else ("both", T, program)
    return program


class Widths(Case):

    def test_each_kind_of_node(self):
        for program, width, _ in PROGRAMS:
            self.assertEqual(width_of(program, WIDTHS), width)
            self.assertEqual(width_of(as_lists(program), as_lists(WIDTHS)), width)

    def test_any_value_as_a_program(self):
        for value in ANY_VALUES:
            self.raises(BadProgram, 0, width_of, value, WIDTHS)
            for wrong in (("keep", value, ALWAYS), ("pick", value, (0,)), ("join", value, T, ()),
                          ("join", T, value, ()), ("both", value, T), ("both", T, value),
                          ("make", value, ("sum", 0, 0)), ("take", value), (value, T, T), (value, "t")):
                self.raises(BadProgram, 0, width_of, wrong, WIDTHS)

    def test_any_value_behind_the_parts(self):
        one = ("val", 1)
        for value in ANY_VALUES:
            wrong = [
                ("keep", T, value), ("pick", T, value), ("make", T, value), ("join", T, U, (value,)),
                ("keep", T, (value, "=", one)), ("keep", T, (one, "=", value)), ("keep", T, (one, value, one)),
                ("keep", T, ((value, 1), "=", one)), ("make", T, (value, 0, 0))]
            if value not in ((), []):
                wrong.append(("join", T, U, value))
            if type(value) is not int or value < 0:
                wrong += [("pick", T, (value,)), ("pick", T, (0, value)), ("make", T, ("sum", 0, value)),
                          ("join", T, U, ((0, value),)), ("keep", T, (one, "=", ("col", value)))]
            for each in wrong:
                self.raises(BadProgram, 0, width_of, each, WIDTHS)

    def test_lengths_of_nodes(self):
        for program, _, _ in PROGRAMS:
            self.raises(BadProgram, 0, width_of, program + (0,), WIDTHS)
            self.raises(BadProgram, 0, width_of, program + ((),), WIDTHS)
            self.raises(BadProgram, 0, width_of, program[:-1], WIDTHS)
            self.raises(BadProgram, 0, width_of, program[1:], WIDTHS)
            self.raises(BadProgram, 0, width_of, (program,), WIDTHS)

    def test_words_that_are_no_kind(self):
        for word in ("", "tak", "takes", "Keep", "PICK", "sum", "col", " take", None, 0, ("take",), []):
            self.raises(BadProgram, 0, width_of, (word, "t"), WIDTHS)
            self.raises(BadProgram, 0, width_of, (word, T, (0,)), WIDTHS)
            self.raises(BadProgram, 0, width_of, (word, T, T), WIDTHS)

    def test_tables_that_are_lacking(self):
        for name in ("v", "", "T", "tt", "take", None, 3, True, ("t",), ["t"], T):
            self.raises(BadProgram, 0, width_of, ("take", name), WIDTHS)
            self.raises(BadProgram, 0, width_of, ("both", T, ("take", name)), WIDTHS)
        self.raises(BadProgram, 0, width_of, T, ())
        self.assertEqual(width_of(("take", "take"), (("take", 2),)), 2)

    def test_columns_of_a_keep(self):
        for width, name in ((3, "t"), (2, "u"), (6, "wide"), (1, "thin")):
            part = ("take", name)
            for column in range(width):
                for sides in ((("col", column), ("val", 1)), (("val", "a"), ("col", column))):
                    self.assertEqual(width_of(("keep", part, (sides[0], "<", sides[1])), WIDTHS), width)
            for column in (width, width + 1, -1, 99, "0", None, True, False, (0,), ()):
                for sides in ((("col", column), ("val", 1)), (("val", "a"), ("col", column))):
                    self.raises(BadProgram, 0, width_of, ("keep", part, (sides[0], "<", sides[1])), WIDTHS)

    def test_cells_of_a_keep(self):
        for cell in GOOD_CELLS:
            self.assertEqual(width_of(("keep", T, (("val", cell), "=", ("col", 0))), WIDTHS), 3)
        for cell in BAD_CELLS:
            self.raises(BadProgram, 0, width_of, ("keep", T, (("val", cell), "=", ("col", 0))), WIDTHS)
            self.raises(BadProgram, 0, width_of, ("keep", T, (("col", 0), "=", ("val", cell))), WIDTHS)

    def test_forms_of_a_keep(self):
        one = ("val", 1)
        for sign in (">", "==", "", "<=", "!=", None, 0, ("=",), "<!"):
            self.raises(BadProgram, 0, width_of, ("keep", T, (one, sign, one)), WIDTHS)
        for wrong in ((one, "="), (one, "=", one, one), ("=", one, one), (one, one, "="), ()):
            self.raises(BadProgram, 0, width_of, ("keep", T, wrong), WIDTHS)
        for side in (("val",), ("val", 1, 1), ("col",), ("col", 0, 0), (1, "val"), ("Val", 1), ("cell", 0), 1, "a"):
            self.raises(BadProgram, 0, width_of, ("keep", T, (side, "=", one)), WIDTHS)
            self.raises(BadProgram, 0, width_of, ("keep", T, (one, "=", side)), WIDTHS)

    def test_columns_of_a_pick(self):
        for columns in ((0,), (2, 1, 0), (0,) * 6):
            self.assertEqual(width_of(("pick", T, columns), WIDTHS), len(columns))
        for columns in ((), (0,) * 7, (3,), (0, 3), (-1,), (0, -1), ("0",), (None,), (True,), (0, False), ((0,),), 0,
                        "0", "012", None):
            self.raises(BadProgram, 0, width_of, ("pick", T, columns), WIDTHS)

    def test_columns_of_a_join(self):
        for pairs in ((), ((2, 1),), ((0, 0), (0, 0)), ((2, 1), (0, 0), (1, 1))):
            self.assertEqual(width_of(("join", T, U, pairs), WIDTHS), 5)
        for pair in ((3, 0), (0, 2), (-1, 0), (0, -1), (True, 0), (0, False), ("0", 0), (0,), (0, 0, 0), (), 0, "00"):
            self.raises(BadProgram, 0, width_of, ("join", T, U, (pair,)), WIDTHS)
            self.raises(BadProgram, 0, width_of, ("join", T, U, ((0, 0), pair)), WIDTHS)
        self.raises(BadProgram, 0, width_of, ("join", T, U, (0, 0)), WIDTHS)
        self.raises(BadProgram, 0, width_of, ("join", U, T, ((2, 1),)), WIDTHS)

    def test_columns_and_kinds_of_a_make(self):
        for wrong in (("sum", 0, 3), ("sum", 3, 0), ("sum", -1, 0), ("sum", 0, -1), ("sum", True, 0), ("sum", 0, "1"),
                      ("sum", 0), ("sum", 0, 0, 0), ("sum",), (), ("more", 0, 1), ("", 0, 1), (None, 0, 1),
                      (0, 1, "sum"), ("Sum", 0, 1), (("sum",), 0, 1)):
            self.raises(BadProgram, 0, width_of, ("make", T, wrong), WIDTHS)

    def test_rows_that_are_too_wide(self):
        five = ("join", T, U, ())
        six = ("make", five, ("sum", 4, 0))
        self.assertEqual(width_of(five, WIDTHS), 5)
        self.assertEqual(width_of(six, WIDTHS), 6)
        self.raises(BadProgram, 0, width_of, ("make", six, ("sum", 0, 0)), WIDTHS)
        self.raises(BadProgram, 0, width_of, ("make", ("take", "wide"), ("sum", 0, 0)), WIDTHS)
        self.assertEqual(width_of(("join", five, ("take", "thin"), ()), WIDTHS), 6)
        self.raises(BadProgram, 0, width_of, ("join", five, U, ()), WIDTHS)
        self.raises(BadProgram, 0, width_of, ("join", ("take", "wide"), ("take", "thin"), ((0, 0),)), WIDTHS)
        # Too wide on the way, though not in the end.
        self.raises(BadProgram, 0, width_of, ("pick", ("join", five, U, ()), (0,)), WIDTHS)

    def test_unlike_widths_together(self):
        self.raises(BadProgram, 0, width_of, ("both", T, U), WIDTHS)
        self.raises(BadProgram, 0, width_of, ("both", U, T), WIDTHS)
        self.assertEqual(width_of(("both", ("pick", T, (0, 1)), U), WIDTHS), 2)

    def test_20_and_21_nodes(self):
        self.assertEqual(width_of(chain(20), WIDTHS), 3)
        self.raises(BadProgram, 0, width_of, chain(21), WIDTHS)
        self.assertEqual(width_of(tree(19), WIDTHS), 3)
        self.raises(BadProgram, 0, width_of, tree(21), WIDTHS)
        self.assertEqual(width_of(("keep", tree(19), ALWAYS), WIDTHS), 3)
        self.raises(BadProgram, 0, width_of, ("pick", ("keep", tree(19), ALWAYS), (0,)), WIDTHS)
        half = tree(9)
        self.assertEqual(width_of(("both", half, half), WIDTHS), 3)
        self.raises(BadProgram, 0, width_of, ("both", ("both", half, half), T), WIDTHS)

    def test_programs_that_are_far_too_deep(self):
        for around in (lambda part: ("pick", part, (0,)), lambda part: ("both", T, part),
                       lambda part: ("both", part, part), lambda part: (part,), lambda part: [part],
                       lambda part: ("take", part)):
            self.raises(BadProgram, 0, width_of, deep(around, T), WIDTHS)
        nothing = deep(lambda part: (part,), ())
        for wrong in (("take", nothing), ("pick", T, nothing), ("keep", T, nothing), ("join", T, U, nothing),
                      ("keep", T, (("val", nothing), "=", ("col", nothing))), ("make", T, (nothing, 0, 0))):
            self.raises(BadProgram, 0, width_of, wrong, WIDTHS)


class Texts(Case):

    def test_texts_of_programs(self):
        for program, _, text in PROGRAMS:
            self.assertEqual(program_text(program), text)
            self.assertEqual(program_text(as_lists(program)), text)

    def test_programs_of_texts(self):
        for program, _, text in PROGRAMS:
            self.assertEqual(read_program(text), program)

    def test_any_program_is_read_back(self):
        source = random.Random(10)
        for _ in range(200):
            program, width = any_program(source, dict(WIDTHS), source.randint(1, 9))
            self.assertEqual(width_of(program, WIDTHS), width)
            self.assertEqual(read_program(program_text(program)), program)

    def test_only_forms_are_looked_at(self):
        for text in ("take nowhere", "pick(take thin, 5)", "make(pick(take t, 0), sum 5 5)", "keep(take t, #5 = #5)",
                     "both(take t, pick(take t, 0))", "join(take t, take t, 5=5)",
                     "join(join(join(take a, take b), join(take c, take d)), join(join(take e, take f), take g))"):
            self.assertEqual(program_text(read_program(text)), text)

    def test_what_is_no_text(self):
        for value in ANY_VALUES:
            if value != "take t":
                self.raises(BadProgram, 0, read_program, value)
        for program, _, _ in PROGRAMS:
            self.raises(BadProgram, 0, read_program, program)
        self.raises(BadProgram, 0, read_program, ("take t",))
        self.raises(BadProgram, 0, read_program, ["take t"])

    def test_texts_that_are_none(self):
        for text in ("", " ", "t", "take", "take ", "taket", "take  t", "take\tt", "take T", "take 1", "take t ",
                     " take t", "take t\n", "take t1", "take abcdefghi", "take (t)", "take(t)", "(take t)", "take t,",
                     "take t)", "take \u0430", "keep(take t)", "keep(take t, )", "keep take t, #0 = 1", "pick(take t)",
                     "pick(take t, )", "pick(take t, 0,1)", "pick(take t,0)", "pick(take t, 0  1)", "pick(take t, 0 1",
                     "pick( take t, 0)", "pick(take t , 0)", "pick(take t, 0 )", "pick (take t, 0)", "Pick(take t, 0)",
                     "join(take t, take u, )", "join(take t, take u,)", "join(take t)", "join(take t, 0=0)",
                     "join(take t, take u, 0=0, 1=1)", "join(take t, take u, 0 0)", "join(take t, take u, 0=)",
                     "join(take t, take u, =0)", "join(take t, take u, 0==0)", "join(take t, take u, 00)",
                     "join(take t, take u, 0 = 0)", "both(take t)", "both(take t, take u, take t)",
                     "both(take t, take u, 0=0)", "both(take t take u)", "make(take t, sum 0)", "make(take t, sum)",
                     "make(take t, sum 0 1 2)", "make(take t, more 0 1)", "make(take t, 0 1 sum)", "take(take t, 0)",
                     "make(take t, sum #0 #1)", "keep(take t, #0 #1)", "keep(take t, #0 = 1 )", "keep(take t, #0=1)",
                     "keep(take t, #0 == 1)", "keep(take t, #0 > 1)", "keep(take t, # = 1)", "keep(take t, # 0 = 1)"):
            self.raises(BadProgram, 0, read_program, text)

    def test_columns_in_texts(self):
        for column in "012345":
            for text in (f"pick(take t, {column})", f"keep(take t, #{column} = #{column})",
                         f"join(take t, take t, {column}={column})", f"make(take t, sum {column} {column})"):
                self.assertEqual(program_text(read_program(text)), text)
        for column in ("6", "7", "9", "10", "00", "01", "-1", "-0", "+1", "a", "", "\u0661", "\u00b2", "0.", "1_0"):
            for text in (f"pick(take t, {column})", f"pick(take t, 0 {column})", f"keep(take t, #{column} = 1)",
                         f"keep(take t, 1 = #{column})", f"join(take t, take t, {column}=0)",
                         f"join(take t, take t, 0={column})", f"make(take t, sum {column} 0)",
                         f"make(take t, sum 0 {column})"):
                self.raises(BadProgram, 0, read_program, text)

    def test_cells_in_texts(self):
        for cell in GOOD_CELLS:
            self.assertEqual(read_program(f"keep(take t, {cell} ! #1)"), ("keep", T, (("val", cell), "!", ("col", 1))))
            self.assertEqual(read_program(f"keep(take t, #1 ! {cell})"), ("keep", T, (("col", 1), "!", ("val", cell))))
        for cell in ("10000", "-10000", "-0", "00", "01", "-01", "+1", "--1", "-", "abcdefghi", "A", "a1", "1a", "",
                     "\u0663", "1_0", "\u00e4", "None", "'a'", "1.", "9" * 5000):
            self.raises(BadProgram, 0, read_program, f"keep(take t, {cell} ! #1)")
            self.raises(BadProgram, 0, read_program, f"keep(take t, #1 ! {cell})")

    def test_columns_of_a_pick_in_texts(self):
        self.assertEqual(read_program("pick(take t, 0 1 2 3 4 5)"), ("pick", T, (0, 1, 2, 3, 4, 5)))
        self.raises(BadProgram, 0, read_program, "pick(take t, 0 1 2 3 4 5 0)")

    def test_pairs_of_a_join_in_texts(self):
        many = " ".join(["0=1"] * 3000)
        self.assertEqual(read_program(f"join(take t, take u, {many})"), ("join", T, U, ((0, 1),) * 3000))

    def test_one_sign_put_in_left_out_exchanged_or_doubled(self):
        texts = {text for _, _, text in PROGRAMS}
        for text in sorted(texts):
            for at in range(len(text) + 1):
                wrong = [text[:at] + sign + text[at:] for sign in "0a-#=< (),.+A\n"]
                if at < len(text):
                    wrong += [text[:at] + text[at + 1:], text[:at] + text[at] + text[at:]]
                    wrong += [text[:at] + sign + text[at + 1:] for sign in "06a-#=! (),A"]
                for each in wrong:
                    self.read_or_refused(each)

    def read_or_refused(self, text):
        """The text is refused, or it is just that of the program that is told."""
        try:
            program = read_program(text)
        except BadProgram as error:
            self.assertEqual(error.at, 0)
        else:
            self.assertEqual(program_text(program), text)

    def test_20_and_21_nodes_in_texts(self):
        for program in (chain(20), tree(19), ("keep", tree(19), ALWAYS)):
            self.assertEqual(read_program(program_text(program)), program)
        for program in (chain(21), tree(21), ("both", chain(10), chain(10)), ("both", T, chain(19))):
            self.raises(BadProgram, 0, read_program, program_text(program))

    def test_texts_that_are_far_too_deep(self):
        for text in ("pick(" * 5000, "pick(" * 5000 + "take t" + ", 0)" * 5000, "both(take t, " * 5000, "(" * 5000,
                     "take " * 5000, "keep(" * 20 + "take t" + ")" * 20):
            self.raises(BadProgram, 0, read_program, text)


if __name__ == "__main__":
    unittest.main()
