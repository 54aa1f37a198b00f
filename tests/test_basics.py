"""[1] and the interface: what holds of all functions."""

import copy
import inspect
import unittest

from making import Case, as_lists, has_list
from ledgertrace import (
    blame, chain, chances, checking, compacting, desk, errors, folds, ledgers, measures, merging, polys, programs,
    running, secrets_flow, tables, traces, whatif, whynot, why)
from ledgertrace.errors import TraceError

P = (((), 2), ((("a1", 1), ("b1", 2)), 1), ((("a10", 1),), 3))
Q = (((("a1", 1),), 1), ((("c1", 1),), 4))
SEEN = (("", ("ann", "bob")), ("a1", ("ann",)), ("a10", ()), ("b1", ("ann", "bob")))

TABLE = ((("ann", 3), Q), (("ann", 4), P), (("bob", 4), Q))
TABLES = (("sold", 2, TABLE), ("paid", 1, (((3,), P), (("ann",), Q))))
KEPT = ("keep", ("take", "sold"), (("col", 0), "!", ("val", "bob")))
PROGRAM = ("pick", ("join", KEPT, ("take", "paid"), ((1, 0),)), (0, 1))
WIDE = ("make", ("both", ("take", "sold"), ("take", "sold")), ("sum", 1, 1))
SEEN_TABLES = (("sold", 2, ((("ann", 3), ("eve", "joe")), (("bob", 4), ("joe",)))), ("paid", 1, (((3,), ("eve",)),)))
COUNTED_TABLES = (("sold", 2, ((("ann", 3), 2), (("bob", 4), 5))), ("paid", 1, (((3,), 7),)))
CHANGES = (("gone", "a10"), ("new", "sold", ("zoe", 3), "d1"), ("new", "sold", ("ann", 3), "d2"), ("gone", "d2"))
CANDIDATES = (("new", "sold", ("zoe", 3), "d1"), ("new", "sold", ("zoe", 3), "d2"), ("new", "paid", (7,), "d3"))
GRANTS = (("a1", ("ann", "bob")), ("b1", ("bob",)), ("c1", ()))
SETS = (((("a1", 1), ("b1", 2)), 1), ((("a10", 1), ("b1", 1)), 3))
RECORDS = (
    ("source", "sold", 0, 2, (("ann", 3), ("", 17)), 1, "eve", 1),
    ("step", "who", 0, "pick(take t, 0)", (("t", "sold", 0),), "joe", 2), ("forget", 2, "eve", 3))
OTHERS = (
    ("source", "paid", 0, 1, ((3,), (3,)), 1, "kim", 2), ("source", "paid", 1, 1, (("ann",),), 3, "kim", 3))
GROUPS = folds.fold(TABLE, (0,), "sum", 1)

# Of each function: its arguments' names, and calls that answer.
CALLS = (
    (polys.of_token, ("token",), (("a1",),)),
    (polys.plus, ("p", "q"), ((P, Q), (P, ()), ((), Q))),
    (polys.times, ("p", "q"), ((P, Q), (P, ()), (P, (((), 1),)), ((((), 1),), P))),
    (polys.tokens_of, ("p",), ((P,), ((),))),
    (polys.degree, ("p",), ((P,), ((),))),
    (polys.replaced, ("p", "pairs"), (
        (P, ()), (P, (("a1", Q), ("a10", ()))), (P, (("b1", Q), ("z1", P))), (P, (("a10", (((), 1),)),)))),
    (polys.poly_text, ("p",), ((P,), ((),))),
    (polys.read_poly, ("text",), (("2 + a1*b1^2 + 3*a10",), ("0",))),
    (measures.valued, ("p", "measure", "given"), (
        (P, "count", (("a1", 2), ("b1", 3), ("a10", 0))),
        (P, "cost", (("a1", 2), ("b1", None), ("a10", 0))),
        (P, "trust", (("a1", 2), ("b1", 100), ("a10", 0))),
        (P, "there", (("a1", True), ("b1", False), ("a10", True))),
        (P, "seen", SEEN), (P[1:], "seen", SEEN))),
    (measures.measured_plus, ("measure", "a", "b"), (
        ("count", 1, 2), ("cost", None, 2), ("trust", 1, 2), ("there", True, False), ("seen", ("ann",), ("bob",)))),
    (measures.measured_times, ("measure", "a", "b"), (
        ("count", 1, 2), ("cost", None, 2), ("trust", 1, 2), ("there", True, False), ("seen", ("ann",), ("ann",)))),
    (measures.measured_zero, ("measure", "persons"), (("count", ()), ("seen", ("ann", "bob")))),
    (measures.measured_one, ("measure", "persons"), (("count", ()), ("seen", ("ann", "bob")))),
    (chances.chance, ("p", "given"), ((P[1:], (("a1", (1, 2)), ("b1", (1, 3)), ("a10", (0, 1)))),)),
    (tables.tagged, ("rows", "tokens"), (((("ann", 3), (3, "ann"), ("ann", 3)), ("a1", "b1", "a1")), ((), ()))),
    (tables.rows_of, ("table",), ((TABLE,), ((),))),
    (tables.poly_at, ("table", "row"), ((TABLE, ("ann", 4)), (TABLE, ("ann", 5)))),
    (tables.table_valued, ("table", "measure", "given"), (
        (TABLE, "count", (("a1", 2), ("b1", 3), ("a10", 0), ("c1", 1))),
        (TABLE, "seen", SEEN + (("c1", ("ann", "bob")),)))),
    (programs.width_of, ("program", "widths"), (
        (PROGRAM, (("sold", 2), ("paid", 1))), (WIDE, (("sold", 2),)))),
    (programs.program_text, ("program",), ((PROGRAM,), (WIDE,))),
    (programs.read_program, ("text",), (("pick(join(take t, take u, 0=1 1=0), 0 0)",), ("keep(take t, #0 < -5)",))),
    (running.run, ("program", "tables"), ((PROGRAM, TABLES), (WIDE, TABLES))),
    (running.run_measured, ("program", "tables", "measure", "persons"), (
        (PROGRAM, SEEN_TABLES, "seen", ("eve", "joe")), (WIDE, SEEN_TABLES, "seen", ("eve", "joe")),
        (PROGRAM, COUNTED_TABLES, "count", ()), (WIDE, COUNTED_TABLES, "cost", ()))),
    (why.witnesses, ("p",), ((P,), (SETS,), ((),))),
    (why.there_with, ("p", "tokens"), ((SETS, ("b1", "a1")), (SETS, ("b1", "z1")))),
    (why.needed, ("p",), ((P,), (SETS,), ((),))),
    (why.breakers, ("p",), ((P,), (SETS,), ((),))),
    (blame.contingency, ("p", "token"), ((SETS, "a1"), (SETS, "z1"), (SETS, "b1"))),
    (blame.blame, ("p", "token"), ((SETS, "a1"), (SETS, "z1"), (P, "b1"))),
    (blame.blames, ("p",), ((P,), (SETS,), ((),))),
    (whatif.changed_tables, ("tables", "changes"), ((TABLES, CHANGES), (TABLES, ()), ((), ()))),
    (whatif.whatif, ("program", "tables", "changes"), ((PROGRAM, TABLES, CHANGES), (WIDE, TABLES, CHANGES))),
    (whatif.moved, ("program", "tables", "changes"), ((PROGRAM, TABLES, CHANGES), (WIDE, TABLES, CHANGES))),
    (whynot.additions, ("program", "tables", "candidates", "row"), (
        (PROGRAM, TABLES, CANDIDATES, ("zoe", 3)), (PROGRAM, TABLES, CANDIDATES, ("ann", 3)),
        (PROGRAM, TABLES, CANDIDATES, ("kim", 3)))),
    (whynot.nearest, ("program", "tables", "candidates", "row", "prices"), (
        (PROGRAM, TABLES, CANDIDATES, ("zoe", 3), (("d3", 1), ("d1", 5), ("d2", 4))),
        (PROGRAM, TABLES, CANDIDATES, ("kim", 3), (("d3", 1), ("d1", 5), ("d2", 4))))),
    (secrets_flow.seers, ("p", "grants", "persons"), ((Q, GRANTS, ("ann", "bob", "eve")), (P, GRANTS, ("eve",)))),
    (secrets_flow.seen_table, ("table", "grants", "person"), ((TABLE, GRANTS, "ann"), (TABLE, GRANTS, "eve"))),
    (secrets_flow.leaks, ("table", "grants", "person"), ((TABLE, GRANTS, "ann"), (TABLE, GRANTS, "eve"))),
    (folds.fold, ("table", "keys", "kind", "column"), (
        (TABLE, (0,), "sum", 1), (TABLE, (), "count", None), (TABLE, (1, 1), "most", 0), ((), (5,), "least", 5))),
    (folds.fold_whatif, ("groups", "kind", "column", "gone"), (
        (GROUPS, "sum", 1, ("a1", "c1")), (GROUPS, "count", ("x",), ()), (GROUPS, "least", 0, ("a10",)))),
    (folds.swing, ("groups", "kind", "column", "key"), (
        (GROUPS, "sum", 1, ("ann",)), (GROUPS, "most", 0, ("bob",)), (GROUPS, "count", (), ("bob",)))),
    (traces.trace_paper, ("program", "tables"), ((PROGRAM, TABLES), (WIDE, TABLES))),
    (traces.why_paper, ("p", "tokens"), ((SETS, ("b1", "a1")), (SETS, ("b1", "z1")), (P, ()), ((), ("a1",)))),
    (checking.trace_holds, ("program", "tables", "paper"), (
        (PROGRAM, TABLES, traces.trace_paper(PROGRAM, TABLES)), (WIDE, TABLES, traces.trace_paper(WIDE, TABLES)))),
    (checking.why_holds, ("p", "tokens", "paper"), (
        (SETS, ("b1", "a1"), "why a1 b1\n"), (SETS, ("b1", "z1"), "not\nlacks a1\nlacks a10\n"), (P, (), "why\n"))),
    (chain.digest, ("text",), (("",), ("row ann 3\n",))),
    (chain.record_text, ("record",), tuple((record,) for record in RECORDS)),
    (chain.links, ("records",), ((RECORDS,), ((),))),
    (chain.told_otherwise, ("records", "others"), (
        (RECORDS, RECORDS[:2]), (RECORDS, OTHERS), (RECORDS, (RECORDS[0], RECORDS[2])))),
    (merging.merged, ("records", "others"), ((RECORDS, OTHERS), (OTHERS, RECORDS), ((), RECORDS))),
    (merging.renumbered, ("records", "others"), ((RECORDS, OTHERS), (OTHERS, RECORDS), ((), RECORDS))),
    (compacting.compacted, ("records", "roots"), ((RECORDS, (("who", 0),)), (RECORDS, ()), (OTHERS, (("paid", 1),)))),
    (compacting.kept_versions, ("records", "roots"), ((RECORDS, (("who", 0),)), (RECORDS, ()), (OTHERS, (("paid", 1),)))),
)

MANY_SETS = ((tuple((f"a{at}", 1) for at in range(1000, 1401)), 1),)

# Calls that raise.
WRONG_CALLS = (
    (polys.plus, ((((), 10 ** 100 - 1),), (((), 1),))),
    (polys.times, ((((), 10 ** 50),), (((), 10 ** 50),))),
    (polys.replaced, (P, (("a1", tuple(((("b1", at),), 1) for at in range(1, 402))),))),
    (polys.read_poly, ((("a1", ("b1",)),),)),
    (measures.valued, (P, "count", (("a1", 2), ("b1", 3)))),
    (measures.valued, (P, "seen", (("a1", ("ann",)),))),
    (chances.chance, (P, (("a1", (1, 2)),))),
    (tables.tagged, (((1,), ("A",)), ("a1", "a2"))),
    (tables.tagged, (((1,), (2,)), ("a1", ("a2",)))),
    (tables.tagged, (tuple((at,) for at in range(401)), ("a1",) * 401)),
    (tables.table_valued, (TABLE, "count", (("a1", 2),))),
    (programs.width_of, (PROGRAM, (("sold", 2),))),
    (programs.read_program, (("take", "t"),)),
    (running.run, (PROGRAM, TABLES[:1])),
    (running.run, (("both", PROGRAM, ("take", "more")), TABLES + (
        ("more", 2, tuple(((1, at), Q) for at in range(401))),))),
    (running.run_measured, (("take", "more"), (("more", 1, (((1,), 10 ** 4000),)),), "count", ())),
    (why.breakers, (MANY_SETS,)),
    (blame.contingency, (MANY_SETS, "a1000")),
    (blame.blame, (MANY_SETS, "z1")),
    (blame.blames, (MANY_SETS,)),
    (whatif.changed_tables, (TABLES, CHANGES + (("gone", "a10"),))),
    (whatif.changed_tables, (TABLES, CHANGES + (("new", "sold", ("ann",), "d9"),))),
    (whatif.whatif, (PROGRAM, TABLES, CHANGES + (("gone", "d2"),))),
    (whatif.moved, (PROGRAM, TABLES, CHANGES + (("new", "sold", ("ann", 3), "d2"),))),
    (whynot.additions, (PROGRAM, TABLES, CANDIDATES + (("gone", "a1"),), ("zoe", 3))),
    (whynot.additions, (PROGRAM, TABLES, CANDIDATES, ("zoe", 3, 3))),
    (whynot.nearest, (PROGRAM, TABLES, CANDIDATES, ("zoe", 3), (("d1", 1), ("d2", 2), ("d2", 3)))),
    (folds.fold, (TABLE, (0, (1,)), "sum", 1)),
    (folds.fold, (TABLE, (0, 1), ("sum",), 1)),
    (folds.fold, (TABLE, (0, 1), "sum", (1,))),
    (folds.swing, (GROUPS, "sum", 1, ("zoe",))),
    (traces.trace_paper, (PROGRAM, TABLES[:1])),
    (checking.trace_holds, (PROGRAM, TABLES[:1], "node 0 take\n")),
    (checking.trace_holds, (PROGRAM, TABLES, "node 0 take\n")),
    (checking.why_holds, (SETS, ("b1", "a1"), ("why",))),
    (ledgers.Ledger, (("a",),)),
    (ledgers.rebuilt, ("a", RECORDS + (("forget", 2, "eve", 9),))),
    (merging.merged, (RECORDS, OTHERS + (("forget", 3, "eve", 9),))),
    (merging.renumbered, (RECORDS, RECORDS)),
    (compacting.compacted, (RECORDS[:2], (("who", 0),))),
    (compacting.kept_versions, (RECORDS, (("who", 0), ("who", 1)))),
    (desk.Desk, ("A",)),
    (desk.replayed, ("a", "names\nname\n")),
)


class AllFunctions(Case):

    def test_names_of_arguments_and_places(self):
        for call, names, _ in CALLS:
            self.assertEqual(tuple(inspect.signature(call).parameters), names, call)
            module = inspect.getmodule(call)
            self.assertEqual(call.__module__, module.__name__)
            self.assertIs(getattr(module, call.__name__), call)

    def test_each_function_of_the_interface_is_called_here(self):
        listed = {
            polys: ("of_token", "plus", "times", "tokens_of", "degree", "replaced", "poly_text", "read_poly"),
            measures: ("valued", "measured_plus", "measured_times", "measured_zero", "measured_one"),
            chances: ("chance",),
            tables: ("tagged", "rows_of", "poly_at", "table_valued"),
            programs: ("width_of", "program_text", "read_program"),
            running: ("run", "run_measured"),
            why: ("witnesses", "there_with", "needed", "breakers"),
            blame: ("contingency", "blame", "blames"),
            whatif: ("changed_tables", "whatif", "moved"),
            whynot: ("additions", "nearest"),
            secrets_flow: ("seers", "seen_table", "leaks"),
            folds: ("fold", "fold_whatif", "swing"),
            traces: ("trace_paper", "why_paper"),
            checking: ("trace_holds", "why_holds"),
            chain: ("digest", "record_text", "links", "told_otherwise"),
            merging: ("merged", "renumbered"),
            compacting: ("compacted", "kept_versions"),
        }
        for module, names in listed.items():
            called = {call.__name__ for call, _, _ in CALLS if call.__module__ == module.__name__}
            self.assertEqual(called, set(names))

    def test_names_of_arguments_of_the_errors(self):
        listed = {"NothingThere": ["name"], "TooMany": ["word"], "Unlike": ["name"]}
        for made in TraceError.__subclasses__():
            self.assertEqual(list(inspect.signature(made).parameters), listed.get(made.__name__, ["at"]))
            self.assertEqual(made.__module__, errors.__name__)

    def test_lists_are_taken_for_tuples_and_tuples_come_back(self):
        for call, _, many in CALLS:
            for arguments in many:
                told = call(*arguments)
                by_lists = call(*as_lists(arguments))
                self.assertEqual(by_lists, told, (call, arguments))
                self.assertIs(type(by_lists), type(told))
                self.assertFalse(has_list(told) or has_list(by_lists), (call, arguments))

    def test_arguments_by_name(self):
        for call, names, many in CALLS:
            for arguments in many:
                told = call(*arguments)
                self.assertEqual(call(**dict(zip(names, arguments))), told)
                self.assertEqual(call(**dict(reversed(list(zip(names, arguments))))), told)
                self.assertEqual(call(arguments[0], **dict(zip(names[1:], arguments[1:]))), told)

    def test_nothing_that_is_handed_in_is_changed(self):
        for call, _, many in CALLS:
            for arguments in many:
                handed = as_lists(arguments)
                kept = copy.deepcopy(handed)
                call(*handed)
                self.assertEqual(handed, kept, call)

    def test_a_call_that_raises_changes_nothing_either(self):
        for call, arguments in WRONG_CALLS:
            told = []
            for form in (arguments, as_lists(arguments), arguments):
                kept = copy.deepcopy(form)
                with self.assertRaises(TraceError) as caught:
                    call(*form)
                self.assertEqual(form, kept)
                told.append((type(caught.exception), vars(caught.exception)))
            self.assertEqual(told, [told[0]] * 3)

    def test_later_changes_of_what_was_handed_in_have_no_effect(self):
        p, pairs = as_lists(P), as_lists((("b1", Q),))
        rows, table, given = as_lists((("ann", 3),)), as_lists(TABLE), as_lists(SEEN_TABLES)
        results = [polys.plus(p, []), polys.times([[[], 1]], p), polys.replaced(p, []), polys.replaced(p, pairs)]
        results += [tables.tagged(rows, ["a1"]), tables.rows_of(table), tables.poly_at(table, ["ann", 4])]
        results += [running.run(["take", "t"], [["t", 2, table]])]
        results += [running.run_measured(["take", "sold"], given, "seen", [])]
        changes, candidates, grants = as_lists(CHANGES), as_lists(CANDIDATES), as_lists(GRANTS)
        results += [whatif.changed_tables([["sold", 2, table]], changes)]
        results += [whatif.moved(["take", "sold"], [["sold", 2, table]], changes)]
        results += [whynot.additions(["take", "sold"], as_lists(TABLES), candidates, ["zoe", 3])]
        results += [secrets_flow.leaks(table, grants, "ann"), secrets_flow.seen_table(table, grants, "bob")]
        groups = as_lists(GROUPS)
        results += [folds.fold(table, [0], "sum", 1), folds.fold_whatif(groups, "sum", 1, ["a1"])]
        results += [checking.trace_holds(["take", "sold"], [["sold", 2, table]], traces.trace_paper(
            ["take", "sold"], [["sold", 2, table]]))]
        kept = copy.deepcopy(results)
        persons = ["ann", "bob"]
        everyone = measures.measured_one("seen", persons)
        p[1][0][0][1] = 99
        p.clear()
        pairs[0][1].clear()
        rows[0].append(4)
        for row, p in table:
            row.clear()
            p[0][0].clear()
        given[0][2][0][1].clear()
        for sequence in (changes, candidates, grants, groups):
            sequence[0].clear()
            sequence.clear()
        persons.clear()
        self.assertEqual(results, kept)
        self.assertEqual(everyone, ("ann", "bob"))

    def test_equal_calls_return_equal_results(self):
        for call, _, many in CALLS:
            first = [call(*arguments) for arguments in many]
            self.assertEqual([call(*arguments) for arguments in reversed(many)], first[::-1])

    def test_values_that_are_handed_out(self):
        self.assertEqual(polys.ZERO, ())
        self.assertEqual(polys.ONE, (((), 1),))
        self.assertEqual(measures.MEASURES, ("count", "cost", "trust", "there", "seen"))

    def test_no_deep_calls(self):
        wide = ((tuple((f"a{at}", 1) for at in sorted(range(1, 3000), key=str)), 1),)
        self.assertEqual(polys.degree(polys.times(wide, wide)), 5998)
        self.assertEqual(polys.read_poly(polys.poly_text(wide)), wide)
        self.assertEqual(measures.valued(wide, "count", [(token, 1) for token in polys.tokens_of(wide)]), 1)


if __name__ == "__main__":
    unittest.main()
