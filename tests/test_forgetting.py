"""[25], [30]: rows that are forgotten."""

import random
import unittest

from making import (
    ANY_VALUES, BAD_NAMES, BAD_TOKENS, Case, PlainLedger, any_calls, deep, plain_gone, told)
from test_ledgers import BAD_NUMBERS, sold, state
from ledgertrace.errors import BadValue, NothingThere
from ledgertrace.ledgers import Ledger
from ledgertrace.polys import read_poly
from ledgertrace.running import run
from ledgertrace.whatif import changed_tables

T = ("take", "t")


def at(row, text):
    return (row, read_poly(text))


def held(value):
    """All plain values that an object holds, however deep within."""
    found, waiting = [], [value]
    while waiting:
        value = waiting.pop()
        if isinstance(value, dict):
            waiting += list(value) + list(value.values())
        elif isinstance(value, (list, tuple, set)):
            waiting += list(value)
        elif isinstance(value, (str, int)) or value is None:
            found.append(value)
        else:
            waiting.append(vars(value))
    return found


class Forget(Case):

    def test_in_all_tables(self):
        ledger = sold()
        self.assertIsNone(ledger.forget("a1", "kim", 7))
        self.assertEqual(ledger.table("sold", 0), (at(("bob", 5), "a2"),))
        self.assertEqual(ledger.table("who", 0), (at(("bob",), "a2"),))
        self.assertEqual(ledger.table("who", 1), (at(("ann",), "a3"), at(("bob",), "a2")))
        ledger.forget("a3", "kim", 9)
        self.assertEqual(ledger.table("sold", 1), ())
        self.assertEqual(ledger.table("who", 1), (at(("bob",), "a2"),))
        self.assertEqual(ledger.tokens_left(), (("a2", "sold", 0, ("bob", 5)),))

    def test_what_stays(self):
        ledger, other = sold(), sold()
        ledger.forget("a3", "kim", 7)
        for name, version in (("sold", 0), ("sold", 1), ("who", 0), ("who", 1)):
            for method in ("width", "maker", "sources_of"):
                self.assertEqual(getattr(ledger, method)(name, version), getattr(other, method)(name, version))
        self.assertEqual((ledger.names(), ledger.versions("sold")), (other.names(), 2))

    def test_records(self):
        ledger, other = sold(), sold()
        ledger.forget("a2", "kim", 8)
        before = other.records()
        gone = before[0][:4] + ((("ann", 3), plain_gone(("bob", 5))),) + before[0][5:]
        self.assertEqual(ledger.records(), (gone,) + before[1:] + (("forget", 2, "kim", 8),))

    def test_one_of_two_equal_rows(self):
        ledger = Ledger("a")
        ledger.source("sold", ((1,), (2,), (1,)), "eve", 0)
        ledger.step("made", ("join", T, T, ()), (("t", "sold", 0),), "eve", 0)
        ledger.forget("a1", "eve", 0)
        self.assertEqual(ledger.table("sold", 0), (at((1,), "a3"), at((2,), "a2")))
        self.assertEqual(ledger.table("made", 0)[0], at((1, 1), "a3^2"))
        self.assertEqual(ledger.records()[0][4], (plain_gone((1,)), (2,), (1,)))
        ledger.forget("a3", "eve", 0)
        self.assertEqual(ledger.table("made", 0), (at((2, 2), "a2^2"),))

    def test_rows_all_of_whose_witnesses_have_the_token(self):
        ledger = Ledger("a")
        ledger.source("sold", ((1, 2), (2, 3), (1, 3)), "eve", 0)
        way = ("pick", ("join", T, T, ((1, 0),)), (0, 3))
        ledger.step("way", ("both", T, way), (("t", "sold", 0),), "eve", 0)
        self.assertEqual(ledger.table("way", 0), (at((1, 2), "a1"), at((1, 3), "a1*a2 + a3"), at((2, 3), "a2")))
        ledger.forget("a2", "eve", 0)
        self.assertEqual(ledger.table("way", 0), (at((1, 2), "a1"), at((1, 3), "a3")))

    def test_tokens_are_not_given_again(self):
        ledger = sold()
        ledger.forget("a3", "eve", 7)
        ledger.source("sold", (("ann", 4),), "eve", 7)
        self.assertEqual(ledger.table("sold", 2), (at(("ann", 4), "a4"),))
        self.raises(NothingThere, "a3", ledger.forget, "a3", "eve", 7)

    def test_steps_behind_a_forget(self):
        ledger = sold()
        ledger.forget("a1", "eve", 7)
        ledger.step("later", ("join", T, ("take", "u"), ()), (("t", "who", 1), ("u", "sold", 0)), "eve", 7)
        self.assertEqual(ledger.table("later", 0), (at(("ann", "bob", 5), "a2*a3"), at(("bob", "bob", 5), "a2^2")))
        ledger.step("latest", ("pick", T, (1,)), (("t", "later", 0),), "eve", 7)
        ledger.forget("a3", "eve", 7)
        self.assertEqual(ledger.table("latest", 0), (at(("bob",), "a2^2"),))
        ledger.forget("a2", "eve", 7)
        self.assertEqual([ledger.table(*place) for place in (("latest", 0), ("later", 0), ("who", 0))], [(), (), ()])

    def test_tokens_of_which_one_is_the_beginning_of_another_one(self):
        ledger = Ledger("a")
        ledger.source("sold", tuple((cell,) for cell in range(11)), "eve", 0)
        ledger.forget("a1", "eve", 0)
        self.assertEqual([each[0] for each in ledger.tokens_left()], [f"a{number}" for number in range(2, 12)])
        ledger.forget("a10", "eve", 0)
        self.assertEqual(ledger.table("sold", 0), tuple(at((cell,), f"a{cell + 1}") for cell in (1, 2, 3, 4, 5, 6, 7, 8, 10)))

    def test_the_cells_are_kept_nowhere(self):
        source = random.Random(30)
        ledger = Ledger("a")
        ledger.source("p", (("secret", 1), ("hidden", 77), ("open", 1)), "eve", 1)
        ledger.step("q", ("join", T, T, ((1, 1),)), (("t", "p", 0),), "eve", 1)
        ledger.step("r", ("make", ("pick", ("take", "u"), (0, 1, 3)), ("sum", 1, 2)), (("u", "q", 0),), "eve", 1)
        self.assertIn("hidden", held(ledger))
        ledger.forget("a2", "eve", 1)
        for cell in ("hidden", 77, 154):
            self.assertNotIn(cell, held(ledger))
        self.assertIn("secret", held(ledger))
        ledger.forget("a1", "eve", 1)
        self.assertNotIn("secret", held(ledger))
        self.assertIn("open", held(ledger))
        for _ in range(30):
            calls, ledger = any_calls(source, "a", 12)
            cells = {cell for call in calls if call[0] == "source" for row in call[2] for cell in row}
            left = {cell for _, _, _, row in ledger.tokens_left() for cell in row}
            tables = [ledger.table(name, at) for name in ledger.names() for at in range(ledger.versions(name))]
            texts = " ".join(record[3] for record in ledger.records() if record[0] == "step")
            for cell in cells - left:
                if type(cell) is str and cell not in texts:
                    self.assertFalse(any(cell in row for table in tables for row, _ in table))

    def test_as_if_the_row_had_been_taken_out_of_all_tables(self):
        source = random.Random(301)
        for _ in range(60):
            calls, _ = any_calls(source, "a", 12)
            calls = [call for call in calls if call[0] != "forget"]
            ledger, plain = told("a", calls), PlainLedger("a", calls)
            left = [each[0] for each in ledger.tokens_left()]
            gone = source.sample(left, min(len(left), 3))
            for token in gone:
                ledger.forget(token, "eve", 999)
            for (name, version), table in plain.tables.items():
                triples = (("t", plain.widths[name, version], table), ("z", 1, tuple(at((1,), each) for each in gone)))
                changed = changed_tables(triples, [("gone", token) for token in gone])[0][2]
                self.assertEqual(ledger.table(name, version), changed)

    def test_it_is_run_of_what_is_left(self):
        source = random.Random(302)
        for _ in range(40):
            calls, ledger = any_calls(source, "a", 15)
            places = {}
            for kind, name, *rest in calls:
                if kind != "forget":
                    version = places.setdefault(name, 0)
                    places[name] += 1
                if kind == "step":
                    tables = [(alias, ledger.width(each, at), ledger.table(each, at)) for alias, each, at in rest[1]]
                    self.assertEqual(ledger.table(name, version), run(rest[0], tables))


class WrongForgets(Case):

    def setUp(self):
        self.ledger = sold()
        self.kept = state(self.ledger)

    def test_any_value_as_token(self):
        values = ANY_VALUES + BAD_TOKENS + (
            "a4", "a10", "a9999", "b1", "z3", "A1", "a0", deep(lambda part: (part,), ()), 1, ["a1"], ("a1",))
        for value in values:
            if value != "a1":
                for person, time in (("eve", 7), (None, None)):
                    with self.assertRaises(NothingThere) as caught:
                        self.ledger.forget(value, person, time)
                    self.assertIs(caught.exception.name, value)
        self.raises(NothingThere, "a1", Ledger("a").forget, "a1", "eve", 0)
        self.assertEqual(state(self.ledger), self.kept)

    def test_a_row_twice(self):
        self.ledger.forget("a2", "eve", 7)
        kept = state(self.ledger)
        self.raises(NothingThere, "a2", self.ledger.forget, "a2", "eve", 7)
        self.raises(NothingThere, "a2", self.ledger.forget, "a2", None, None)
        self.assertEqual(state(self.ledger), kept)

    def test_persons_then_times(self):
        for value in BAD_NAMES:
            self.raises(BadValue, 1, self.ledger.forget, "a1", value, 7)
            self.raises(BadValue, 1, self.ledger.forget, "a1", value, None)
        for value in BAD_NUMBERS + (6, 0):
            self.raises(BadValue, 2, self.ledger.forget, "a1", "eve", value)
        self.assertEqual(state(self.ledger), self.kept)
        self.ledger.forget("a1", "eve", 8)
        self.raises(BadValue, 2, self.ledger.forget, "a2", "eve", 7)
        self.raises(BadValue, 3, self.ledger.source, "sold", ((1,),), "eve", 7)
        self.raises(BadValue, 4, self.ledger.step, "who", T, (("t", "sold", 0),), "eve", 7)


if __name__ == "__main__":
    unittest.main()
