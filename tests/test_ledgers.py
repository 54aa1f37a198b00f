"""[25], [26]: sources and steps, and what a ledger tells of them."""

import inspect
import random
import unittest

from making import (
    ANY_VALUES, BAD_CELLS, BAD_NAMES, BAD_ROWS, WORDS_NO_LETTERS, Case, PlainLedger, any_calls, as_lists, deep, has_list,
    named, told)
from ledgertrace.errors import BadProgram, BadValue, NothingThere, TooMany
from ledgertrace.ledgers import Ledger
from ledgertrace.polys import read_poly

T = ("take", "t")
BAD_NUMBERS = (None, True, False, "", "1", "a", -1, -5, (), [], (1,), [2])


def at(row, text):
    return (row, read_poly(text))


def state(ledger):
    """All that a ledger tells."""
    places = [(name, version) for name in ledger.names() for version in range(ledger.versions(name))]
    return (
        ledger.records(), ledger.names(), ledger.tokens_left(), tuple(
            (place, ledger.table(*place), ledger.width(*place), ledger.maker(*place), ledger.sources_of(*place))
            for place in places))


def sold():
    """A ledger with some sources and steps."""
    ledger = Ledger("a")
    ledger.source("sold", (("ann", 3), ("bob", 5)), "eve", 1)
    ledger.step("who", ("pick", ("take", "sold"), (0,)), (("sold", "sold", 0),), "joe", 2)
    ledger.source("sold", (("ann", 4),), "kim", 2)
    ledger.step("who", ("both", T, ("pick", ("take", "u"), (0,))), (("u", "sold", 1), ("t", "who", 0)), "eve", 7)
    return ledger


class NewLedgers(Case):

    def test_a_small_letter(self):
        for name in ("a", "m", "z"):
            self.assertEqual(state(Ledger(name)), ((), (), (), ()))
            self.assertEqual(Ledger(name=name).records(), ())

    def test_what_is_no_small_letter(self):
        for name in WORDS_NO_LETTERS + ANY_VALUES + ("aa", "ab", deep(lambda part: (part,), ())):
            if name != "a":
                self.raises(BadValue, 0, Ledger, name)

    def test_methods_and_names_of_arguments(self):
        listed = {
            "source": ["name", "rows", "person", "time"], "step": ["name", "program", "inputs", "person", "time"],
            "forget": ["token", "person", "time"], "table": ["name", "version"], "width": ["name", "version"],
            "versions": ["name"], "names": [], "maker": ["name", "version"], "sources_of": ["name", "version"],
            "tokens_left": [], "records": []}
        for name, arguments in listed.items():
            self.assertIn(name, vars(Ledger))
            self.assertEqual(list(inspect.signature(getattr(Ledger, name)).parameters), ["self"] + arguments)
        self.assertEqual(list(inspect.signature(Ledger).parameters), ["name"])


class Sources(Case):

    def test_versions_and_tokens(self):
        ledger = Ledger("b")
        self.assertEqual(ledger.source("sold", (("bob", 5), ("ann", 3)), "eve", 1), 0)
        self.assertEqual(ledger.source("paid", ((7,),), "joe", 1), 0)
        self.assertEqual(ledger.source("sold", (("zoe",), ("ann",)), "eve", 4), 1)
        self.assertEqual(ledger.table("sold", 0), (at(("ann", 3), "b2"), at(("bob", 5), "b1")))
        self.assertEqual(ledger.table("paid", 0), (at((7,), "b3"),))
        self.assertEqual(ledger.table("sold", 1), (at(("ann",), "b5"), at(("zoe",), "b4")))
        self.assertEqual([ledger.versions(name) for name in ("sold", "paid", "none", "")], [2, 1, 0, 0])
        self.assertEqual([ledger.width("sold", 0), ledger.width("sold", 1), ledger.width("paid", 0)], [2, 1, 1])
        self.assertEqual(ledger.names(), ("paid", "sold"))

    def test_equal_rows(self):
        ledger = Ledger("a")
        ledger.source("sold", ((1,), (2,), (1,), (1,)), "eve", 0)
        self.assertEqual(ledger.table("sold", 0), (at((1,), "a1 + a3 + a4"), at((2,), "a2")))
        self.assertEqual(ledger.records()[0][4], ((1,), (2,), (1,), (1,)))
        self.assertEqual(len(ledger.tokens_left()), 4)

    def test_tokens_rise_as_strings(self):
        ledger = Ledger("a")
        ledger.source("sold", ((1,),) * 12, "eve", 0)
        self.assertEqual([monomial[0][0] for monomial, _ in ledger.table("sold", 0)[0][1]], list(named("a", 12)))
        self.assertEqual([each[0] for each in ledger.tokens_left()], [f"a{number}" for number in range(1, 13)])

    def test_edges_that_are_let(self):
        ledger = Ledger("a")
        ledger.source("abcdefgh", (("abcdefgh", -9999, 9999, 0, "a", 1),), "abcdefgh", 0)
        ledger.source("a", ((1,),), "a", 0)
        ledger.source("sold", ((1,),), "eve", 10 ** 50)
        ledger.source("sold", ((1,),), "eve", 10 ** 50)
        self.assertEqual(ledger.maker("sold", 1), ("eve", 10 ** 50))
        self.assertEqual(ledger.maker("abcdefgh", 0), ("abcdefgh", 0))
        self.assertEqual(ledger.width("abcdefgh", 0), 6)

    def test_400_and_401_rows(self):
        ledger = Ledger("a")
        self.raises(TooMany, "rows", ledger.source, "sold", tuple((cell,) for cell in range(401)), "eve", 1)
        self.raises(TooMany, "rows", ledger.source, "sold", ((1,),) * 401, "eve", 1)
        self.assertEqual(state(ledger), state(Ledger("a")))
        self.assertEqual(ledger.source("sold", tuple((cell,) for cell in range(400)), "eve", 1), 0)
        self.assertEqual(ledger.source("sold", ((1,),) * 400, "eve", 1), 1)
        self.assertEqual(len(ledger.table("sold", 0)), 400)
        self.assertEqual(len(ledger.table("sold", 1)[0][1]), 400)

    def test_9999_tokens_and_one_more(self):
        ledger = Ledger("a")
        for _ in range(24):
            ledger.source("sold", ((1,),) * 400, "eve", 1)
        self.raises(TooMany, "tokens", ledger.source, "sold", ((1,),) * 400, "eve", 1)
        self.assertEqual(ledger.versions("sold"), 24)
        ledger.forget("a1", "eve", 1)
        self.raises(TooMany, "tokens", ledger.source, "sold", ((1,),) * 400, "eve", 1)
        self.assertEqual(ledger.source("sold", ((1,),) * 398, "eve", 1), 24)
        self.raises(TooMany, "tokens", ledger.source, "sold", ((1,), (2,)), "eve", 1)
        ledger.source("last", ((7,),), "eve", 1)
        self.assertEqual(ledger.table("last", 0), (at((7,), "a9999"),))
        for rows in (((1,),), ((1,),) * 400):
            self.raises(TooMany, "tokens", ledger.source, "sold", rows, "eve", 1)
        self.raises(TooMany, "rows", ledger.source, "sold", ((1,),) * 401, "eve", 1)
        self.assertEqual(len(ledger.tokens_left()), 9998)
        ledger.step("made", T, (("t", "last", 0),), "eve", 1)
        ledger.forget("a9999", "eve", 1)
        self.assertEqual(ledger.table("made", 0), ())


class WrongSources(Case):

    good = ("paid", ((1, 2), (3, 4)), "eve", 7)

    def setUp(self):
        self.ledger = sold()
        self.kept = state(self.ledger)

    def wrong(self, place, value, error=BadValue, argument=None):
        """The value in this place is refused, whatever stands behind it."""
        told = place if argument is None else argument
        for behind in (self.good, (None,) * 4, ("", (), "", -1)):
            arguments = self.good[:place] + (value,) + behind[place + 1:]
            self.raises(error, told, self.ledger.source, *arguments)
            self.raises(error, told, self.ledger.source, *as_lists(arguments))
        self.assertEqual(state(self.ledger), self.kept)

    def test_names(self):
        for value in BAD_NAMES + tuple(value for value in ANY_VALUES if value not in ("a", "ab")):
            self.wrong(0, value)

    def test_rows(self):
        for value in ANY_VALUES + (deep(lambda part: (part,), ()), ((1,), (1, 2)), ((1, 2), (3, 4), (5,)), "abc", (1, 2)):
            self.wrong(1, value)
        for row in BAD_ROWS + (deep(lambda part: (part,), 1), ("", 5)):
            self.wrong(1, (row,))
            self.wrong(1, (row, (1, 2)))
            self.wrong(1, ((1, 2), row))
        for cell in BAD_CELLS:
            self.wrong(1, ((1, 2), (3, cell)))

    def test_persons(self):
        for value in BAD_NAMES:
            self.wrong(2, value)

    def test_times(self):
        for value in BAD_NUMBERS + (6, 0, 1):
            self.wrong(3, value)
        self.assertEqual(self.ledger.source("paid", ((1,),), "eve", 7), 0)
        self.assertEqual(self.ledger.source("paid", ((1,),), "eve", 8), 1)
        self.raises(BadValue, 3, self.ledger.source, "paid", ((1,),), "eve", 7)

    def test_too_many_is_last(self):
        rows = ((1,),) * 401
        for place in (0, 2, 3):
            arguments = ["paid", rows, "eve", 7]
            arguments[place] = None
            self.raises(BadValue, place, self.ledger.source, *arguments)
        self.raises(TooMany, "rows", self.ledger.source, "paid", rows, "eve", 7)
        self.assertEqual(state(self.ledger), self.kept)


class Steps(Case):

    def test_a_step_as_told(self):
        ledger = sold()
        self.assertEqual(ledger.table("who", 0), (at(("ann",), "a1"), at(("bob",), "a2")))
        self.assertEqual(ledger.table("who", 1), (at(("ann",), "a1 + a3"), at(("bob",), "a2")))
        self.assertEqual((ledger.width("who", 1), ledger.maker("who", 1)), (1, ("eve", 7)))
        self.assertEqual(ledger.names(), ("sold", "who"))

    def test_sources_and_steps_as_versions_of_one_name(self):
        ledger = sold()
        self.assertEqual(ledger.step("sold", ("join", T, T, ((0, 0),)), (("t", "sold", 0),), "eve", 7), 2)
        self.assertEqual(ledger.source("who", (("zoe",),), "eve", 7), 2)
        self.assertEqual(ledger.step("who", T, (("t", "sold", 2),), "eve", 7), 3)
        self.assertEqual(ledger.table("sold", 2), (
            at(("ann", 3, "ann", 3), "a1^2"), at(("bob", 5, "bob", 5), "a2^2")))
        self.assertEqual(ledger.table("who", 2), (at(("zoe",), "a4"),))
        self.assertEqual(ledger.table("who", 3), ledger.table("sold", 2))
        self.assertEqual([ledger.width("who", version) for version in range(4)], [1, 1, 1, 4])
        self.assertEqual(ledger.sources_of("who", 3), (("sold", 0),))
        self.assertEqual(ledger.sources_of("who", 2), (("who", 2),))

    def test_one_artifact_under_two_aliases(self):
        ledger = sold()
        ledger.step("twice", ("both", T, ("take", "u")), (("t", "sold", 0), ("u", "sold", 0)), "eve", 7)
        self.assertEqual(ledger.table("twice", 0), (at(("ann", 3), "2*a1"), at(("bob", 5), "2*a2")))

    def test_sources_of_inputs_that_no_take_takes(self):
        ledger = sold()
        ledger.source("paid", ((1,),), "eve", 7)
        ledger.step("made", T, (("v", "paid", 0), ("t", "sold", 1)), "eve", 7)
        ledger.step("more", ("take", "s"), (("s", "made", 0), ("z", "who", 0)), "eve", 7)
        self.assertEqual(ledger.sources_of("made", 0), (("paid", 0), ("sold", 1)))
        self.assertEqual(ledger.sources_of("more", 0), (("paid", 0), ("sold", 0), ("sold", 1)))
        self.assertEqual(ledger.sources_of("who", 1), (("sold", 0), ("sold", 1)))
        self.assertEqual(ledger.sources_of("paid", 0), (("paid", 0),))

    def test_sources_rise_by_name_and_number(self):
        ledger = Ledger("a")
        for _ in range(11):
            ledger.source("s", ((1,),), "eve", 1)
        ledger.source("b", ((1,),), "eve", 1)
        ledger.step("m", T, (("u", "s", 10), ("v", "s", 9), ("t", "s", 2), ("w", "b", 0)), "eve", 1)
        self.assertEqual(ledger.sources_of("m", 0), (("b", 0), ("s", 2), ("s", 9), ("s", 10)))

    def test_a_step_without_rows(self):
        ledger = sold()
        self.assertEqual(ledger.step("none", ("keep", T, (("col", 0), "=", ("val", 1))), (("t", "sold", 0),), "eve", 9), 0)
        self.assertEqual(ledger.step("more", ("join", T, T, ()), (("t", "none", 0),), "eve", 9), 0)
        self.assertEqual((ledger.table("more", 0), ledger.width("more", 0)), ((), 4))

    def test_any_ledger(self):
        source = random.Random(25)
        for turn in range(80):
            calls, ledger = any_calls(source, source.choice("az"), source.randint(1, 25))
            plain = PlainLedger(ledger.letter, calls)
            for place in plain.tables:
                self.assertEqual(ledger.table(*place), plain.tables[place])
                self.assertEqual(ledger.width(*place), plain.widths[place])
                self.assertEqual(ledger.maker(*place), plain.makers[place])
                self.assertEqual(ledger.sources_of(*place), tuple(sorted(plain.sources[place])))
            self.assertEqual(ledger.names(), tuple(sorted({name for name, _ in plain.tables})))
            for name in ("p", "q", "r", "s"):
                self.assertEqual(ledger.versions(name), len([each for each, _ in plain.tables if each == name]))
            self.assertEqual((ledger.tokens_left(), ledger.records()), (plain.left, plain.records))
            self.assertEqual(state(told(ledger.letter, as_lists(calls))), state(ledger))
            self.assertFalse(has_list(state(told(ledger.letter, as_lists(calls)))))


class WrongSteps(Case):

    good = ("paid", T, (("t", "sold", 0),), "eve", 7)

    def setUp(self):
        self.ledger = sold()
        self.kept = state(self.ledger)

    def raised(self, error, told, arguments):
        self.raises(error, told, self.ledger.step, *arguments)
        self.raises(error, told, self.ledger.step, *as_lists(arguments))
        self.assertEqual(state(self.ledger), self.kept)

    def wrong(self, place, value):
        """The value in this place is refused, whatever stands in those that are looked at later."""
        sequence = (0, 2, 1, 3, 4)
        for behind in (self.good, (None,) * 5):
            arguments = list(self.good)
            for later in sequence[sequence.index(place):]:
                arguments[later] = behind[later]
            arguments[place] = value
            self.raised(BadValue, place, tuple(arguments))

    def test_names(self):
        for value in BAD_NAMES:
            self.wrong(0, value)

    def test_any_value_as_inputs(self):
        self.wrong(2, self.good[2][0])
        for value in ANY_VALUES + (deep(lambda part: (part,), ()), "t"):
            if value not in ((), []):
                self.wrong(2, value)
            self.wrong(2, (value,))
            self.wrong(2, self.good[2] + (value,))

    def test_forms_of_inputs(self):
        for value in (("t", "sold"), ("t", "sold", 0, 0), ("sold", 0), ("t", 0, "sold"), (0, "t", "sold"), "abc"):
            self.wrong(2, (value,))

    def test_aliases_that_are_no_words_or_alike(self):
        for value in BAD_NAMES:
            self.wrong(2, ((value, "sold", 0),))
            self.wrong(2, (("t", "sold", 0), (value, "sold", 0)))
        self.wrong(2, (("t", "sold", 0), ("t", "sold", 0)))
        self.wrong(2, (("t", "sold", 0), ("u", "sold", 0), ("t", "who", 1)))

    def test_artifacts_and_versions_that_are_not_there(self):
        for name, version in (("sold", 2), ("sold", -1), ("who", 2), ("none", 0), ("", 0), ("paid", 0), ("s", 0)):
            self.wrong(2, (("t", name, version),))
        for value in BAD_NAMES:
            self.wrong(2, (("t", value, 0),))
        for value in BAD_NUMBERS + (deep(lambda part: (part,), ()), 10 ** 50):
            self.wrong(2, (("t", "sold", value),))

    def test_programs_that_do_not_fit_the_inputs(self):
        for program in ANY_VALUES + (
                ("take", "u"), ("take", "sold"), ("pick", T, (2,)), ("both", T, ("pick", T, (0,))), ("take", "t", 0),
                "take t", deep(lambda part: ("pick", part, (0,)), T), ("keep", T, (("col", 2), "=", ("val", 1)))):
            self.raised(BadProgram, 0, ("paid", program) + self.good[2:])
            self.raised(BadProgram, 0, ("paid", program, self.good[2], None, None))
        self.raised(BadProgram, 0, ("paid", ("pick", T, (1,)), (("t", "who", 0), ("u", "sold", 0)), "eve", 7))

    def test_no_inputs(self):
        for inputs in ((), []):
            self.raised(BadProgram, 0, ("paid", T, inputs, "eve", 7))
            self.raised(BadProgram, 0, ("paid", None, inputs, None, 7))

    def test_persons_and_times(self):
        for value in BAD_NAMES:
            self.wrong(3, value)
        for value in BAD_NUMBERS + (6, 0):
            self.wrong(4, value)

    def test_the_sequence_of_errors(self):
        arguments = [None, None, None, None, None]
        for place, value, error, told in (
                (0, "paid", BadValue, 0), (2, self.good[2], BadValue, 2), (1, T, BadProgram, 0), (3, "eve", BadValue, 3),
                (4, 7, BadValue, 4)):
            self.raised(error, told, tuple(arguments))
            arguments[place] = value
        self.assertEqual(self.ledger.step(*arguments), 0)

    def test_too_many_as_run(self):
        ledger = Ledger("a")
        ledger.source("rows", tuple((cell,) for cell in range(21)), "eve", 1)
        ledger.source("terms", ((1,),) * 29, "eve", 1)
        for name in ("rows", "terms"):
            inputs, square = (("t", name, 0),), ("join", T, T, ())
            kept = state(ledger)
            self.raises(TooMany, name, ledger.step, "made", square, inputs, "eve", 1)
            self.raises(BadValue, 3, ledger.step, "made", square, inputs, None, 1)
            self.raises(BadValue, 4, ledger.step, "made", square, inputs, "eve", 0)
            self.assertEqual(state(ledger), kept)

    def test_too_many_figures(self):
        ledger = Ledger("a")
        ledger.source("big", ((1,),), "eve", 1)
        double = ("both", T, T)
        wide = ("pick", ("join", double, T, ()), (0,))
        version = 0
        with self.assertRaises(TooMany) as caught:
            while version < 400:
                version = ledger.step("big", wide, (("t", "big", version),), "eve", 1)
        self.assertEqual(caught.exception.word, "figures")
        (_, ((((_, exponent),), coefficient),)), = ledger.table("big", version)
        self.assertEqual(exponent, 2 ** version)
        self.assertEqual(ledger.versions("big"), version + 1)
        self.assertLess(coefficient, 10 ** 100)
        self.assertGreaterEqual(2 * coefficient ** 2, 10 ** 100)


class Asking(Case):

    def test_what_is_not_there(self):
        ledger = sold()
        kept = state(ledger)
        for call in (ledger.table, ledger.width, ledger.maker, ledger.sources_of):
            for name, version in (("sold", 2), ("sold", -1), ("none", 0), ("", 0), ("Sold", 0), ("sol", 0)):
                self.raises(NothingThere, name, call, name, version)
            for value in ANY_VALUES + (deep(lambda part: (part,), ()),):
                if type(value) is not int or value not in (0, 1):
                    self.raises(NothingThere, "sold", call, "sold", value)
                if type(value) is not str:
                    with self.assertRaises(NothingThere) as caught:
                        call(value, 0)
                    self.assertIs(caught.exception.name, value)
                self.raises(NothingThere, "none", call, "none", value)
        self.assertEqual(ledger.versions("none"), 0)
        self.assertEqual(state(ledger), kept)

    def test_nothing_is_there_in_a_new_ledger(self):
        ledger = Ledger("a")
        self.raises(NothingThere, "a", ledger.table, "a", 0)
        self.assertEqual((ledger.names(), ledger.versions("a"), ledger.tokens_left()), ((), 0, ()))

    def test_tokens_left(self):
        self.assertEqual(sold().tokens_left(), (
            ("a1", "sold", 0, ("ann", 3)), ("a2", "sold", 0, ("bob", 5)), ("a3", "sold", 1, ("ann", 4))))


class BasicsOfLedgers(Case):

    def test_lists_in_place_of_tuples(self):
        ledger = Ledger("a")
        rows, program, inputs = [["ann", 3], ["bob", 5]], ["pick", ["take", "t"], [0]], [["t", "sold", 0]]
        ledger.source("sold", rows, "eve", 1)
        ledger.step("who", program, inputs, "eve", 1)
        kept = state(ledger)
        self.assertEqual((rows, program, inputs), (
            [["ann", 3], ["bob", 5]], ["pick", ["take", "t"], [0]], [["t", "sold", 0]]))
        rows[0].clear()
        rows.clear()
        program[1][1] = "zz"
        inputs[0][0] = "zz"
        inputs.clear()
        self.assertEqual(state(ledger), kept)
        self.assertFalse(has_list(kept))

    def test_arguments_by_name(self):
        ledger = Ledger(name="a")
        self.assertEqual(ledger.source(time=1, rows=((1,), (2,)), person="eve", name="sold"), 0)
        self.assertEqual(ledger.step(inputs=(("t", "sold", 0),), program=T, time=1, person="eve", name="who"), 0)
        self.assertIsNone(ledger.forget(time=2, person="joe", token="a1"))
        for call in (ledger.table, ledger.width, ledger.maker, ledger.sources_of):
            self.assertEqual(call(version=0, name="who"), call("who", 0))
        self.assertEqual(ledger.versions(name="who"), 1)

    def test_two_ledgers_at_once(self):
        one, other = sold(), sold()
        kept = state(other)
        one.source("sold", ((1,),), "eve", 9)
        one.forget("a1", "eve", 9)
        self.assertEqual(state(other), kept)
        self.assertNotEqual(state(one), kept)
        other.source("sold", ((1,),), "eve", 9)
        other.forget("a1", "eve", 9)
        self.assertEqual(state(other), state(one))

    def test_what_was_told_does_not_change(self):
        ledger = sold()
        before = state(ledger)
        kept = repr(before)
        ledger.forget("a1", "eve", 7)
        ledger.source("sold", ((1,),), "eve", 9)
        self.assertEqual(repr(before), kept)


if __name__ == "__main__":
    unittest.main()
