"""[22], [24]: papers that tell how a program made its table, and why a row is there or not."""

import random
import unittest

from making import (
    GREATEST, Case, any_poly, any_program, any_table, as_lists, deep, named, plain_run, plain_table, powers, simple,
    sum_of)
from ledgertrace.errors import BadProgram, TooMany
from ledgertrace.polys import ONE, ZERO, poly_text, read_poly
from ledgertrace.running import run
from ledgertrace.traces import trace_paper, why_paper
from ledgertrace.why import there_with, witnesses

T = ("take", "t")
U = ("take", "u")


def at(row, text):
    return (row, read_poly(text))


SOLD = ("t", 2, (at((-3, "x"), "a4"), at(("ann", 3), "a1"), at(("ann", 4), "a2 + 2*a3^2"), at(("bob", 5), "a5")))
PAID = ("u", 1, (at(("ann",), "b1"), at(("zoe",), "1 + b2")))
TABLES = (SOLD, PAID)


def plain_nodes(program):
    """The nodes, each behind its parts: a list of (node, numbers of the parts)."""
    found, numbers = [], []
    for part in program[1:]:
        if isinstance(part, (tuple, list)) and part and part[0] in ("take", "keep", "pick", "join", "both", "make"):
            below = plain_nodes(part)
            found += [(node, [len(found) + each for each in parts]) for node, parts in below]
            numbers.append(len(found) - 1)
    return found + [(program, numbers)]


def plain_trace(program, tables):
    """The lines of the paper, in another way than the program's."""
    lines = []
    for number, (node, parts) in enumerate(plain_nodes(program)):
        lines.append("node " + str(number) + " " + node[0] + "".join(f" {part}" for part in parts))
        for row, p in plain_table({row: p for row, p in plain_run(node, tables).items() if p}):
            lines.append("row " + " ".join(str(cell) for cell in row) + " : " + poly_text(p))
    return lines


class TracePaper(Case):

    def paper(self, program, tables=TABLES):
        made = trace_paper(program, tables)
        self.assertEqual(trace_paper(*as_lists((program, tables))), made)
        self.assertIs(type(made), str)
        return made

    def test_take(self):
        self.assertEqual(self.paper(T), (
            "node 0 take\nrow -3 x : a4\nrow ann 3 : a1\nrow ann 4 : a2 + 2*a3^2\nrow bob 5 : a5\n"))
        self.assertEqual(self.paper(U), "node 0 take\nrow ann : b1\nrow zoe : 1 + b2\n")

    def test_keep_pick_and_make(self):
        takes = self.paper(T)
        keep = ("keep", T, (("col", 0), "=", ("val", "ann")))
        self.assertEqual(self.paper(keep), takes + "node 1 keep 0\nrow ann 3 : a1\nrow ann 4 : a2 + 2*a3^2\n")
        self.assertEqual(self.paper(("pick", T, (0,))), takes + (
            "node 1 pick 0\nrow -3 : a4\nrow ann : a1 + a2 + 2*a3^2\nrow bob : a5\n"))
        self.assertEqual(self.paper(("make", T, ("less", 1, 1))), takes + (
            "node 1 make 0\nrow ann 3 0 : a1\nrow ann 4 0 : a2 + 2*a3^2\nrow bob 5 0 : a5\n"))

    def test_join_and_both(self):
        takes = self.paper(T) + "node 1 take\nrow ann : b1\nrow zoe : 1 + b2\n"
        self.assertEqual(self.paper(("join", T, U, ((0, 0),))), takes + (
            "node 2 join 0 1\nrow ann 3 ann : a1*b1\nrow ann 4 ann : a2*b1 + 2*a3^2*b1\n"))
        both = ("both", ("pick", T, (0,)), U)
        self.assertEqual(self.paper(both), self.paper(("pick", T, (0,))) + (
            "node 2 take\nrow ann : b1\nrow zoe : 1 + b2\n"
            "node 3 both 1 2\nrow -3 : a4\nrow ann : a1 + a2 + 2*a3^2 + b1\nrow bob : a5\nrow zoe : 1 + b2\n"))

    def test_one_table_twice(self):
        line = "row ann : b1\nrow zoe : 1 + b2\n"
        self.assertEqual(self.paper(("both", U, U)), (
            "node 0 take\n" + line + "node 1 take\n" + line + "node 2 both 0 1\nrow ann : 2*b1\nrow zoe : 2 + 2*b2\n"))

    def test_nodes_are_numbered_from_the_leaves_up(self):
        left = ("join", ("pick", U, (0,)), U, ())
        right = ("keep", ("join", U, ("pick", U, (0,)), ()), (("col", 0), "!", ("col", 1)))
        lines = self.paper(("both", left, right)).split("\n")
        self.assertEqual([line for line in lines if line.startswith("node")], [
            "node 0 take", "node 1 pick 0", "node 2 take", "node 3 join 1 2", "node 4 take", "node 5 take",
            "node 6 pick 5", "node 7 join 4 6", "node 8 keep 7", "node 9 both 3 8"])

    def test_nodes_without_rows(self):
        keep = ("keep", U, (("col", 0), "=", ("val", 1)))
        self.assertEqual(self.paper(("both", keep, keep), (("u", 1, ()),)), (
            "node 0 take\nnode 1 keep 0\nnode 2 take\nnode 3 keep 2\nnode 4 both 1 3\n"))
        self.assertEqual(self.paper(keep), self.paper(U) + "node 1 keep 0\n")

    def test_rows_that_are_zero_are_left_out(self):
        self.assertEqual(self.paper(U, (("u", 1, (((1,), ZERO), ((2,), ONE))),)), "node 0 take\nrow 2 : 1\n")

    def test_twenty_nodes(self):
        program = T
        for _ in range(19):
            program = ("pick", program, (1, 0))
        lines = self.paper(program).split("\n")
        self.assertEqual(lines[-6:], [
            "node 19 pick 18", "row 3 ann : a1", "row 4 ann : a2 + 2*a3^2", "row 5 bob : a5", "row x -3 : a4", ""])
        self.raises(BadProgram, 0, trace_paper, ("pick", program, (0,)), TABLES)

    def test_any_program(self):
        source = random.Random(22)
        for _ in range(150):
            tables = [("t", 2, any_table(source, 2, ("a1", "a10", "b1"))), ("u", 1, any_table(source, 1, ("a1", "c1")))]
            program, _ = any_program(source, {"t": 2, "u": 1}, source.randint(1, 10))
            try:
                made = run(program, tables)
            except TooMany as error:
                self.raises(TooMany, error.word, trace_paper, program, tables)
                continue
            lines = plain_trace(program, tables)
            self.assertEqual(self.paper(program, tables), "".join(line + "\n" for line in lines))
            self.assertEqual([line[:4] for line in lines[len(lines) - len(made):]], ["row "] * len(made))

    def test_wrong_programs(self):
        for program in (None, 5, "take t", (), T + T, ("take", "v"), ("pick", T, (2,)), ("both", T, U), ("both", T),
                        deep(lambda part: ("pick", part, (0,)), T)):
            self.raises(BadProgram, 0, trace_paper, program, TABLES)

    def test_too_many_as_run(self):
        many = ("m", 1, simple(tuple((cell,) for cell in range(401))))
        full = ("f", 1, simple(tuple((cell,) for cell in range(400))))
        wide = ("w", 1, (((1,), sum_of(named("a", 401))),))
        heavy = ("h", 1, (((1,), (((), GREATEST + 1),)),))
        tables = (many, full, wide, heavy, ("p", 1, (((1,), powers("a1", 300)), ((2,), powers("b1", 300)))))
        for name, word in (("m", "rows"), ("w", "terms"), ("h", "figures")):
            self.raises(TooMany, word, trace_paper, ("take", name), tables)
            self.raises(TooMany, word, run, ("take", name), tables)
            for other, another in (("m", "rows"), ("w", "terms"), ("h", "figures")):
                program = ("both", ("take", name), ("take", other))
                self.raises(TooMany, word, trace_paper, program, tables)
        full = ("take", "f")
        self.assertEqual(trace_paper(full, tables).count("\n"), 401)
        self.raises(TooMany, "rows", trace_paper, ("join", full, full, ()), tables)
        self.raises(TooMany, "terms", trace_paper, ("join", ("take", "p"), ("take", "p"), ()), tables)


class WhyPaper(Case):

    def paper(self, text, *tokens):
        p = read_poly(text)
        made = why_paper(p, tokens)
        self.assertEqual(why_paper(as_lists(p), list(tokens)), made)
        self.assertEqual(why_paper(p, tokens[::-1] + tokens), made)
        return made

    def test_why(self):
        self.assertEqual(self.paper("a1", "a1"), "why a1\n")
        self.assertEqual(self.paper("2*a1*a10^3*b1 + c1*c2", "b1", "a10", "a1"), "why a1 a10 b1\n")
        self.assertEqual(self.paper("a1 + a10 + a2", "a2", "a10"), "why a10\n")

    def test_the_first_least_witness_within_tokens(self):
        text = "a1*b1*c1 + a2*b1 + z1"
        self.assertEqual(self.paper(text, "a1", "a2", "b1", "c1", "z1"), "why z1\n")
        self.assertEqual(self.paper(text, "a1", "a2", "b1", "c1"), "why a2 b1\n")
        self.assertEqual(self.paper(text, "a1", "b1", "c1", "d1"), "why a1 b1 c1\n")
        self.assertEqual(self.paper("a1*a2 + a1^2", "a1", "a2"), "why a1\n")

    def test_the_empty_monomial(self):
        self.assertEqual(self.paper("1"), "why\n")
        self.assertEqual(self.paper("3 + a1", "a1"), "why\n")

    def test_not(self):
        self.assertEqual(self.paper("a1*b1 + a2*b1^2 + z1", "a2", "c1"), "not\nlacks a1\nlacks b1\nlacks z1\n")
        self.assertEqual(self.paper("a1*a10*b1", "a1"), "not\nlacks a10\n")
        self.assertEqual(self.paper("a1*a10*b1"), "not\nlacks a1\n")
        self.assertEqual(self.paper("a1*b1 + a2*b1", "a1", "a2"), "not\nlacks b1\nlacks b1\n")

    def test_zero(self):
        self.assertEqual(self.paper("0"), "not\n")
        self.assertEqual(self.paper("0", "a1", "b1"), "not\n")

    def test_monomials_that_are_no_least_witness_lack_a_token_too(self):
        self.assertEqual(self.paper("a1 + a1*b1 + a1^2", "b1"), "not\nlacks a1\nlacks a1\nlacks a1\n")

    def test_any_polynomial(self):
        source = random.Random(24)
        for _ in range(300):
            p = any_poly(source)
            tokens = [token for token in ("b1", "a2", "a10", "a1", "z1") if source.random() < 0.6]
            made = why_paper(p, tokens)
            if there_with(p, tokens):
                first = next(each for each in witnesses(p) if set(each) <= set(tokens))
                self.assertEqual(made, "why" + "".join(" " + token for token in first) + "\n")
            else:
                lines = [next(token for token, _ in monomial if token not in tokens) for monomial, _ in p]
                self.assertEqual(made, "not\n" + "".join(f"lacks {token}\n" for token in lines))


if __name__ == "__main__":
    unittest.main()
