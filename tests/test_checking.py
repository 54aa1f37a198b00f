"""[23], [24]: which papers hold, and at which line the others do not."""

import random
import unittest

from making import (
    ANY_VALUES, GREATEST, Case, any_poly, any_program, any_table, as_lists, deep, named, powers, simple, sum_of)
from test_traces import PAID, SOLD, T, TABLES, U
from ledgertrace.checking import trace_holds, why_holds
from ledgertrace.errors import BadPaper, BadProgram, TooMany
from ledgertrace.polys import ZERO, read_poly
from ledgertrace.running import run
from ledgertrace.traces import trace_paper, why_paper
from ledgertrace.why import there_with

KEPT = ("keep", T, (("col", 0), "!", ("val", "bob")))
WHO = ("pick", ("join", KEPT, U, ((0, 0),)), (0,))
PAPER = trace_paper(WHO, TABLES)
LINES = PAPER.split("\n")[:-1]


def text_of(lines):
    return "".join(line + "\n" for line in lines)


class TraceHolds(Case):

    def wrong(self, place, paper, program=WHO, tables=TABLES):
        """The paper is not right, from the line with this number on."""
        self.raises(BadPaper, place, trace_holds, program, tables, paper)
        self.raises(BadPaper, place, trace_holds, as_lists(program), as_lists(tables), paper)

    def test_the_right_paper(self):
        self.assertEqual(len(LINES), 17)
        self.assertEqual(trace_holds(WHO, TABLES, PAPER), run(WHO, TABLES))
        self.assertEqual(trace_holds(*as_lists((WHO, TABLES)), PAPER), run(WHO, TABLES))
        self.assertEqual(trace_holds(T, TABLES, trace_paper(T, TABLES)), SOLD[2])
        for empty in (("t", 2, ()), ("t", 2, (((1, 1), ZERO),))):
            self.assertEqual(trace_holds(T, (empty,), "node 0 take\n"), ())

    def test_any_program(self):
        source = random.Random(23)
        for _ in range(150):
            tables = [("t", 2, any_table(source, 2, ("a1", "a10", "b1"))), ("u", 1, any_table(source, 1, ("a1", "c1")))]
            program, _ = any_program(source, {"t": 2, "u": 1}, source.randint(1, 10))
            try:
                paper = trace_paper(program, tables)
            except TooMany:
                continue
            self.assertEqual(trace_holds(program, tables, paper), run(program, tables))
            lines = paper.split("\n")[:-1]
            place = source.randrange(len(lines))
            for worse in ("", lines[place] + " ", lines[place] + "1", lines[place][:-1], "node 0", "row 1 : 1"):
                if worse != lines[place]:
                    self.wrong(place, text_of(lines[:place] + [worse] + lines[place + 1:]), program, tables)

    def test_one_sign_put_in_left_out_exchanged_or_doubled(self):
        for place, sign in enumerate(PAPER):
            number = PAPER[:place].count("\n")
            for other in (PAPER[:place] + PAPER[place + 1:], PAPER[:place] + "a" + PAPER[place:],
                          PAPER[:place] + " " + PAPER[place:], PAPER[:place] + "\n" + PAPER[place:],
                          PAPER[:place] + sign + PAPER[place:], PAPER[:place] + "7" + PAPER[place + 1:],
                          PAPER[:place] + "\n" + PAPER[place + 1:]):
                if other != PAPER:
                    # A sign like the one beside it may come to stand in the next line only.
                    wrong = [at for at, line in enumerate(LINES) if other.split("\n")[:-1][at:at + 1] != [line]]
                    self.wrong(min(wrong + [len(LINES)]), other)
                    self.assertLessEqual(min(wrong + [len(LINES)]), number + 1)

    def test_lines_exchanged_doubled_and_left_out(self):
        for place in range(len(LINES)):
            self.wrong(place, text_of(LINES[:place] + LINES[place + 1:]))
            doubled = text_of(LINES[:place + 1] + LINES[place:])
            self.wrong(place + 1, doubled)
            if place + 1 < len(LINES):
                self.wrong(place, text_of(LINES[:place] + [LINES[place + 1], LINES[place]] + LINES[place + 2:]))

    def test_lines_that_lack(self):
        for many in range(len(LINES)):
            self.wrong(many, text_of(LINES[:many]))
        self.wrong(0, "")

    def test_lines_behind_the_last_one(self):
        for more in ("\n", "\n\n", "x\n", "x", " ", LINES[-1] + "\n", "node 6 take\n", PAPER):
            self.wrong(len(LINES), PAPER + more)

    def test_a_last_line_without_its_line_feed(self):
        self.wrong(len(LINES) - 1, PAPER[:-1])
        for many in range(1, len(LINES)):
            self.wrong(many - 1, text_of(LINES[:many])[:-1])
        self.wrong(0, "node 0 take", T, (("t", 2, ()),))

    def test_a_row_changed_so_that_all_later_lines_fit(self):
        for row, text, place in ((("ann", 3), "a1 + z1", 2), (("ann", 3), "2*a1", 2), (("ann", 4), "a2", 3)):
            table = tuple((each, read_poly(text) if each == row else p) for each, p in SOLD[2])
            other = trace_paper(WHO, (("t", 2, table), PAID))
            self.assertEqual(trace_holds(WHO, (("t", 2, table), PAID), other), run(WHO, (("t", 2, table), PAID)))
            self.wrong(place, other)
        # From the node keep on the lines fit each other, but not the lines of the take.
        told = trace_paper(WHO, (("t", 2, tuple(pair for pair in SOLD[2] if pair[0] != ("ann", 4))), PAID))
        at_keep = LINES.index("node 1 keep 0")
        lines = told.split("\n")[:-1]
        self.wrong(at_keep + 3, text_of(LINES[:at_keep] + lines[lines.index("node 1 keep 0"):]))

    def test_another_text_of_the_same_rows(self):
        for place, line, worse in (
                (3, "row ann 4 : a2 + 2*a3^2", "row ann 4 : 2*a3^2 + a2"), (2, "row ann 3 : a1", "row ann 3 : 1*a1"),
                (2, "row ann 3 : a1", "row ann 3 : a1^1"), (1, "row -3 x : a4", "row -03 x : a4"),
                (0, "node 0 take", "node 00 take")):
            self.assertEqual(LINES[place], line)
            self.wrong(place, text_of(LINES[:place] + [worse] + LINES[place + 1:]))

    def test_what_is_no_text(self):
        for value in ANY_VALUES + (LINES, tuple(LINES), [PAPER], ("node 0 take",), deep(lambda part: (part,), ())):
            self.wrong(0, value)
        self.wrong(1, LINES[0] + "\n" + "row \u00e4 : a4\n")

    def test_a_wrong_program_is_first(self):
        for program in (None, 5, "take t", (), ("take", "v"), ("pick", T, (2,)), ("both", T, U), as_lists(("both", T)),
                        deep(lambda part: ("pick", part, (0,)), T)):
            for paper in (PAPER, "", None, 5, ("x",)):
                self.raises(BadProgram, 0, trace_holds, program, TABLES, paper)

    def test_nodes_that_would_have_too_many(self):
        many = ("m", 1, simple(tuple((cell,) for cell in range(401))))
        full = ("f", 1, simple(tuple((cell,) for cell in range(400))))
        wide = ("w", 1, (((1,), sum_of(named("a", 401))),))
        heavy = ("h", 1, (((1,), (((), GREATEST + 1),)),))
        tables = (many, full, wide, heavy, ("p", 1, (((1,), powers("a1", 300)), ((2,), powers("b1", 300)))))
        for name in ("m", "w", "h"):
            for more in ("", "\n", "row 1 : 1\n", "row 1 : 1", "node 1 take\n"):
                self.wrong(1, "node 0 take\n" + more, ("take", name), tables)
            self.wrong(0, "node 0 take", ("take", name), tables)
            self.wrong(0, "node 1 take\n", ("take", name), tables)
            self.wrong(0, None, ("take", name), tables)
        for name in ("f", "p"):
            one = ("take", name)
            paper = trace_paper(one, tables)
            rest = paper.replace("node 0", "node 1") + "node 2 join 0 1\n"
            place = (paper + rest).count("\n")
            for more in ("", "\n", "row 0 0 : a1^2\n", "row"):
                self.wrong(place, paper + rest + more, ("join", one, one, ()), tables)
            self.wrong(place - 1, (paper + rest)[:-1], ("join", one, one, ()), tables)
            self.wrong(2, "".join(paper.splitlines(True)[:2]) + "row\n" + rest, ("join", one, one, ()), tables)

    def test_lines_of_400_rows(self):
        full = ("f", 1, simple(tuple((cell,) for cell in range(400))))
        paper = trace_paper(("take", "f"), (full,))
        self.assertEqual(trace_holds(("take", "f"), (full,), paper), full[2])
        self.wrong(401, paper + "row 400 : a401\n", ("take", "f"), (full,))


class WhyHolds(Case):

    def holds(self, whether, text, tokens, *papers):
        p = read_poly(text)
        for paper in papers:
            self.assertIs(why_holds(p, tokens, paper), whether, paper)
            self.assertIs(why_holds(as_lists(p), list(tokens)[::-1], paper), whether, paper)

    def wrong(self, text, tokens, *papers):
        p = read_poly(text)
        for paper in papers:
            self.raises(BadPaper, 0, why_holds, p, tokens, paper)
            self.raises(BadPaper, 0, why_holds, as_lists(p), list(tokens), paper)

    def test_why_by_any_monomial(self):
        text, tokens = "a1 + a1*a10*b1 + a2^2*b1 + c1*z1", ("b1", "a10", "a2", "a1")
        self.holds(True, text, tokens, "why a1\n", "why a2 b1\n", "why a1 a10 b1\n")
        self.wrong(text, tokens, "why a10\n", "why b1\n", "why a1 b1\n", "why c1 z1\n", "why a1 a10\n", "why\n")

    def test_why_of_tokens_that_are_not_among_tokens(self):
        self.holds(True, "a1*b1 + c1", ("a1", "b1"), "why a1 b1\n")
        self.wrong("a1*b1 + c1", ("a1", "b1"), "why c1\n")
        self.wrong("a1*b1", ("a1",), "why a1 b1\n", "why a1\n", "why b1\n", "why\n")

    def test_why_rising_each_once(self):
        self.wrong("a1*a10*b1^2", ("a1", "a10", "b1"), "why a10 a1 b1\n", "why b1 a1 a10\n", "why a1 a10 b1 b1\n",
                   "why a1 a1 a10 b1\n", "why a1 a10 b1^2\n", "why a1*a10*b1\n", "why a1 a10 b1 c1\n")

    def test_forms_of_why(self):
        self.holds(True, "a1*b1", ("a1", "b1"), "why a1 b1\n")
        self.wrong("a1*b1", ("a1", "b1"), "why a1 b1", "why a1 b1\n\n", "why  a1 b1\n", "why a1  b1\n", "why a1 b1 \n",
                   " why a1 b1\n", "Why a1 b1\n", "why a1 b1\nwhy a1 b1\n", "why a1\nb1\n", "whya1 b1\n", "a1 b1\n",
                   "why\na1 b1\n", "\nwhy a1 b1\n", "not\n", "not a1 b1\n", "why a1 b1\nnot\n", "")

    def test_not_by_any_token_that_lacks(self):
        text, tokens = "a1*a10*b1 + a2*b1 + b1^2", ("a10", "a2", "z1")
        self.holds(False, text, tokens, "not\nlacks a1\nlacks b1\nlacks b1\n", "not\nlacks b1\nlacks b1\nlacks b1\n")
        self.wrong(text, tokens, "not\nlacks a10\nlacks b1\nlacks b1\n", "not\nlacks a1\nlacks a2\nlacks b1\n",
                   "not\nlacks a1\nlacks c1\nlacks b1\n", "not\nlacks b1\nlacks a1\nlacks b1\n",
                   "not\nlacks a1\nlacks b1\n", "not\nlacks a1\nlacks b1\nlacks b1\nlacks b1\n", "not\n")

    def test_forms_of_not(self):
        text, tokens = "a1*b1 + c1", ("z1",)
        self.holds(False, text, tokens, "not\nlacks a1\nlacks c1\n", "not\nlacks b1\nlacks c1\n")
        self.wrong(text, tokens, "not\nlacks a1\nlacks c1", "not\nlacks a1\nlacks c1\n\n", "not\n\nlacks a1\nlacks c1\n",
                   "not \nlacks a1\nlacks c1\n", "Not\nlacks a1\nlacks c1\n", "not\nlacks  a1\nlacks c1\n",
                   "not\nlacks a1 b1\nlacks c1\n", "not\nlack a1\nlacks c1\n", "lacks a1\nlacks c1\n",
                   "not lacks a1\nlacks c1\n", "not\na1\nc1\n", "not\nlacks a1\nlacks c1 \n", "not\nlacks c1\nlacks a1\n",
                   "not\nlacks a1\nlacks c1\nlacks c1", "not\nlacks a1\nlacks c1\n ",
                   "not\nlacks \nlacks c1\n", "not\nlacks\nlacks c1\n", "", "\n", "not", "why\n", "why a1 b1\n")

    def test_not_of_a_row_that_is_there(self):
        self.wrong("a1 + b1*c1", ("a1", "b1"), "not\nlacks a1\nlacks c1\n", "not\nlacks a1\nlacks b1\n", "not\nlacks c1\n",
                   "not\n", "not\nlacks z1\nlacks c1\n")
        self.holds(True, "a1 + b1*c1", ("a1", "b1"), "why a1\n")

    def test_zero_and_one(self):
        self.holds(False, "0", ("a1",), "not\n")
        self.holds(False, "0", (), "not\n")
        self.wrong("0", ("a1",), "why\n", "why a1\n", "not\nlacks a1\n", "not", "", "not\n\n")
        self.holds(True, "1", (), "why\n")
        self.holds(True, "2 + a1", ("a1",), "why\n", "why a1\n")
        self.holds(True, "2 + a1", (), "why\n")
        self.wrong("1", (), "why", "why \n", "why a1\n", "not\n", "not\nlacks\n", "not\nlacks \n", "not\nlacks a1\n")
        self.wrong("1 + a1", (), "why a1\n", "not\nlacks a1\n", "not\nlacks a1\nlacks a1\n")

    def test_what_is_no_text(self):
        for text, tokens in (("0", ()), ("1", ()), ("a1", ("a1",)), ("a1", ())):
            self.wrong(text, tokens, *ANY_VALUES, ("why",), ["not\n"], b"why a1\n", deep(lambda part: (part,), ()))

    def test_papers_that_are_made(self):
        source = random.Random(241)
        for _ in range(300):
            p = any_poly(source)
            tokens = [token for token in ("b1", "a2", "a10", "a1", "z1") if source.random() < 0.6]
            paper = why_paper(p, tokens)
            self.assertIs(why_holds(p, tokens, paper), there_with(p, tokens))
            for other in ("why" if paper.startswith("not") else "not") + paper[3:], paper[:-1], paper + "\n":
                self.raises(BadPaper, 0, why_holds, p, tokens, other)

    def test_one_paper_for_and_none_against(self):
        # No paper tells that a row is there and another one that it is not.
        source = random.Random(242)
        for _ in range(100):
            p = any_poly(source)
            tokens = [token for token in ("b1", "a2", "a10", "a1") if source.random() < 0.6]
            papers = [why_paper(p, [token for token in ("b1", "a2", "a10", "a1") if source.random() < 0.6])
                      for _ in range(5)]
            for paper in papers:
                try:
                    told = why_holds(p, tokens, paper)
                except BadPaper:
                    continue
                self.assertIs(told, there_with(p, tokens))


if __name__ == "__main__":
    unittest.main()
