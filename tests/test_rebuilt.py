"""[27]: records, and ledgers that are made again out of them."""

import random
import unittest

from making import (
    ANY_VALUES, BAD_NAMES, BAD_ROWS, MODULUS, WORDS_NO_LETTERS, Case, any_calls, as_lists, deep, has_list, plain_gone)
from test_ledgers import BAD_NUMBERS, sold, state
from ledgertrace.errors import BadRecord, BadValue, NothingThere
from ledgertrace.ledgers import Ledger, rebuilt

T = ("take", "t")
SOURCE, STEP, FORGET = 0, 1, 4


def forgetful():
    """A ledger with all kinds of records: of four rows two are forgotten."""
    ledger = sold()
    ledger.forget("a2", "kim", 8)
    ledger.source("who", (("zoe",),), "eve", 8)
    ledger.forget("a4", "kim", 9)
    ledger.step("last", T, (("t", "who", 2),), "joe", 9)
    return ledger


RECORDS = forgetful().records()


class Records(Case):

    def test_each_kind(self):
        self.assertEqual(sold().records(), (
            ("source", "sold", 0, 2, (("ann", 3), ("bob", 5)), 1, "eve", 1),
            ("step", "who", 0, "pick(take sold, 0)", (("sold", "sold", 0),), "joe", 2),
            ("source", "sold", 1, 2, (("ann", 4),), 3, "kim", 2),
            ("step", "who", 1, "both(take t, pick(take u, 0))", (("u", "sold", 1), ("t", "who", 0)), "eve", 7)))
        self.assertEqual(RECORDS, (
            ("source", "sold", 0, 2, (("ann", 3), plain_gone(("bob", 5))), 1, "eve", 1),) + sold().records()[1:] + (
            ("forget", 2, "kim", 8), ("source", "who", 2, 1, (plain_gone(("zoe",)),), 4, "eve", 8),
            ("forget", 4, "kim", 9), ("step", "last", 0, "take t", (("t", "who", 2),), "joe", 9)))
        self.assertEqual(Ledger("a").records(), ())

    def test_digests_of_forgotten_rows(self):
        self.assertEqual(RECORDS[0][4][1], ("", 870636889325949875))

    def test_rows_with_all_kinds_of_cells(self):
        ledger = Ledger("a")
        rows = ((-9999, 0, "abcdefgh", 9999, "z", -1), (1, 2, 3, 4, 5, 6))
        ledger.source("sold", rows, "eve", 0)
        self.assertEqual(ledger.records(), (("source", "sold", 0, 6, rows, 1, "eve", 0),))
        ledger.forget("a1", "eve", 0)
        self.assertEqual(ledger.records()[0][4], (plain_gone(rows[0]), rows[1]))


class Rebuilt(Case):

    def test_the_same_ledger(self):
        for ledger in (Ledger("a"), sold(), forgetful()):
            made = rebuilt("a", ledger.records())
            self.assertIs(type(made), Ledger)
            self.assertEqual(state(made), state(ledger))
            self.assertEqual(state(rebuilt("a", as_lists(ledger.records()))), state(ledger))
            self.assertFalse(has_list(state(rebuilt("a", as_lists(ledger.records())))))
            self.assertEqual(state(rebuilt(records=ledger.records(), name="a")), state(ledger))

    def test_with_another_letter(self):
        made = rebuilt("b", RECORDS)
        self.assertEqual(made.records(), RECORDS)
        self.assertEqual([each[0] for each in made.tokens_left()], ["b1", "b3"])

    def test_it_goes_on(self):
        for ledger in (forgetful(), rebuilt("a", RECORDS)):
            self.raises(NothingThere, "a2", ledger.forget, "a2", "eve", 9)
            self.raises(NothingThere, "a4", ledger.forget, "a4", "eve", 9)
            self.raises(BadValue, 3, ledger.source, "sold", ((1,),), "eve", 8)
            self.assertEqual(ledger.source("sold", ((1,),), "eve", 9), 2)
            self.assertEqual(ledger.step("who", T, (("t", "who", 2),), "eve", 9), 3)
            ledger.forget("a1", "eve", 9)
            self.assertEqual(ledger.tokens_left(), (("a3", "sold", 1, ("ann", 4)), ("a5", "sold", 2, (1,))))
            self.assertEqual(state(rebuilt("a", ledger.records())), state(ledger))
            self.assertEqual(len(RECORDS), 8)

    def test_any_ledger(self):
        source = random.Random(27)
        for _ in range(60):
            _, ledger = any_calls(source, "a", source.randint(0, 20))
            records = ledger.records()
            made = rebuilt("a", records)
            self.assertEqual(state(made), state(ledger))
            # Each beginning is told, too, but for rows that only later records forget.
            end = source.randint(0, len(records))
            self.assertEqual(len(records[:end]), end)
            numbers = {record[1] for record in records[:end] if record[0] == "forget"}
            places = [
                at for at, record in enumerate(records[:end]) if record[0] == "source"
                and any(row[0] == "" and record[5] + place not in numbers for place, row in enumerate(record[4]))]
            if places:
                self.raises(BadRecord, places[0], rebuilt, "a", records[:end])
            else:
                self.assertEqual(rebuilt("a", records[:end]).records(), records[:end])

    def test_rows_that_are_gone_are_in_no_table_that_is_made_meanwhile(self):
        # With the gone row, the step would have too many rows: 21 * 21.
        rows = tuple((cell,) for cell in range(20)) + (("", 5),)
        records = (
            ("source", "many", 0, 1, rows, 1, "eve", 0),
            ("step", "made", 0, "join(take t, take t)", (("t", "many", 0),), "eve", 0), ("forget", 21, "eve", 0))
        made = rebuilt("a", records)
        self.assertEqual(len(made.table("made", 0)), 400)
        self.assertEqual(made.records(), records)
        stands = (records[0][:4] + (rows[:20] + ((20,),),) + records[0][5:],)
        self.raises(BadRecord, 1, rebuilt, "a", stands + records[1:2])

    def test_two_ledgers_of_which_one_goes_on(self):
        one, other = rebuilt("a", RECORDS), rebuilt("a", RECORDS)
        kept = state(other)
        one.source("sold", ((1,),), "eve", 9)
        one.forget("a1", "eve", 9)
        self.assertEqual(state(other), kept)
        records = as_lists(RECORDS)
        made = rebuilt("a", records)
        records[0][4][0][0] = "zoe"
        records[1].clear()
        records.clear()
        self.assertEqual(state(made), kept)


class WrongRecords(Case):

    def wrong(self, place, records):
        self.raises(BadRecord, place, rebuilt, "a", records)
        self.raises(BadRecord, place, rebuilt, "a", as_lists(records))

    def changed(self, place, part, value):
        """The records with another value in one part of one of them are refused there."""
        record = RECORDS[place][:part] + (value,) + RECORDS[place][part + 1:]
        self.wrong(place, RECORDS[:place] + (record,) + RECORDS[place + 1:])

    def test_names_are_first(self):
        for name in WORDS_NO_LETTERS + ANY_VALUES + ("ab",):
            if name != "a":
                self.raises(BadValue, 0, rebuilt, name, RECORDS)
                self.raises(BadValue, 0, rebuilt, name, None)

    def test_what_is_no_sequence(self):
        for value in (None, 0, 5, "", "abc", "source", True):
            self.wrong(0, value)

    def test_any_value_in_place_of_a_record(self):
        for value in ANY_VALUES + (RECORDS, "source", ("source",), ("forget",), ("step",), deep(lambda part: (part,), ())):
            for place in (0, 2, 7):
                self.wrong(place, RECORDS[:place] + (value,) + RECORDS[place + 1:])
            self.wrong(8, RECORDS + (value,))
            self.wrong(0, (value,))

    def test_records_that_are_too_long_or_too_short(self):
        for place, record in enumerate(RECORDS):
            ahead, later = RECORDS[:place], RECORDS[place + 1:]
            # What still begins as a record that forgets a row tells that the row was gone.
            for value in (record + ("eve",), record + (9,), record[:-1], record[:-2]):
                self.wrong(place, ahead + (value,) + later)
            source = {4: 0, 6: 5}.get(place, place)
            for value in (record[1:], ("",) + record, (record,), record[:1], ()):
                self.wrong(source, ahead + (value,) + later)

    def test_any_value_in_place_of_a_part(self):
        for place in (SOURCE, STEP, 2, 3, 5, 7):
            for part, right in enumerate(RECORDS[place]):
                for value in ANY_VALUES + (deep(lambda each: (each,), ()), "zz zz", 10 ** 30, (("", 5),), (("", 1, 2),)):
                    harmless = type(value) is str and part in (1, len(RECORDS[place]) - 2)
                    harmless = harmless or type(value) is int and part == len(RECORDS[place]) - 1
                    # Another program that fits, another digest.
                    harmless = harmless or (place, part, value) in ((3, 3, "take t"), (5, 4, (("", 5),)))
                    if value != right and not harmless:
                        self.changed(place, part, value)

    def test_kinds(self):
        for place, record in enumerate(RECORDS):
            for kind in ("source", "step", "forget", "Source", "", None, ("source",)):
                if kind != record[0] and record[0] != "forget":
                    self.changed(place, 0, kind)

    def test_names_and_persons(self):
        for place in (SOURCE, STEP, 5):
            for value in BAD_NAMES:
                self.changed(place, 1, value)
                self.changed(place, len(RECORDS[place]) - 2, value)
        for value in BAD_NAMES:
            self.changed(FORGET, 2, value)
        # Another name may stand there, but not with these versions.
        self.changed(3, 1, "sold")
        self.changed(2, 1, "zoe")
        # As version 1 of who the rows can stand there, but not the step behind them.
        self.wrong(3, RECORDS[:2] + (("source", "who") + RECORDS[2][2:],) + RECORDS[3:])

    def test_versions(self):
        for place, right in ((0, 0), (1, 0), (2, 1), (3, 1), (5, 2), (7, 0)):
            for value in BAD_NUMBERS + (0, 1, 2, 3):
                if value != right or isinstance(value, bool):
                    self.changed(place, 2, value)

    def test_widths(self):
        for place, right in ((0, 2), (2, 2), (5, 1)):
            for value in BAD_NUMBERS + (0, 1, 2, 3, 6, 7):
                # Of rows that are all gone no other width is wrong but one beyond the limits.
                if value != right and not (place == 5 and value in (2, 3, 6)) or isinstance(value, bool):
                    if place != 5 or value != 1:
                        self.changed(place, 3, value)
        records = RECORDS[:5] + (RECORDS[5][:3] + (6,) + RECORDS[5][4:],) + RECORDS[6:]
        self.assertEqual(rebuilt("a", records).width("last", 0), 6)

    def test_rows(self):
        gone = RECORDS[0][4][1]
        for value in ((), (gone,), (("ann",), gone), (("ann", 3), gone, ("x",)), (("ann", 3, 4), gone)):
            self.changed(0, 4, value)
        # One row less is told by the first number of the next rows.
        self.wrong(2, (RECORDS[0][:4] + ((("ann", 3),),) + RECORDS[0][5:],) + RECORDS[1:])
        for row in BAD_ROWS + (("",), ("", -1), ("", MODULUS), ("", None), ("", "1"), ("", 1, 2), ("", ""), ("", ("",))):
            self.changed(0, 4, (("ann", 3), row))
            self.changed(2, 4, (row,))
        self.changed(0, 4, ("", 5))
        self.wrong(0, (("source", "many", 0, 1, ((1,),) * 401, 1, "eve", 0),))
        for digest in (0, 5, MODULUS - 1):
            records = (RECORDS[0][:4] + ((("ann", 3), ("", digest)),) + RECORDS[0][5:],) + RECORDS[1:]
            self.assertEqual(rebuilt("a", records).records(), records)

    def test_first_numbers(self):
        for place, right in ((0, 1), (2, 3), (5, 4)):
            for value in BAD_NUMBERS + (0, 1, 2, 3, 4, 5):
                if value != right or isinstance(value, bool):
                    self.changed(place, 5, value)

    def test_more_than_9999_tokens(self):
        many = tuple(("source", "many", at, 1, ((1,),) * 400, 1 + 400 * at, "eve", 0) for at in range(25))
        self.wrong(24, many)
        last = ("source", "many", 24, 1, ((1,),) * 399, 9601, "eve", 0)
        self.assertEqual(len(rebuilt("a", many[:24] + (last,)).tokens_left()), 9999)

    def test_times(self):
        for place, record in enumerate(RECORDS):
            for value in BAD_NUMBERS + ((RECORDS[place - 1][-1] - 1,) if place else ()):
                self.changed(place, len(record) - 1, value)
        # A time that is too great is wrong at the next record.
        self.wrong(4, RECORDS[:3] + (RECORDS[3][:-1] + (10,),) + RECORDS[4:])
        self.wrong(2, RECORDS[:1] + (RECORDS[1][:-1] + (10,),) + RECORDS[2:])

    def test_texts(self):
        for place in (1, 3, 7):
            for value in ANY_VALUES + ("take v", "take t ", "pick(take sold,0)", "pick(take sold, 2)", "Take t", "take", (
                    "take", "t"), "pick(" * 5000, "keep(take t, #0 = -0)", "pick(take sold, 00)"):
                if value != "take t" or place == 1:
                    self.changed(place, 3, value)

    def test_inputs(self):
        for value in (
                (), (("t", "sold", 0),), (("sold", "sold", 1),), (("sold", "who", 0),), (("sold", "sold", -1),),
                (("sold", "sold", 0), ("sold", "sold", 0)), (("sold", "sold", "0"),), (("sold", "sold"),), ("sold",)):
            self.changed(1, 4, value)
        self.changed(3, 4, (("u", "who", 0), ("t", "sold", 0)))
        self.changed(3, 4, (("u", "sold", 1), ("t", "who", 1)))

    def test_a_row_that_stands_and_is_forgotten(self):
        record = RECORDS[0][:4] + ((("ann", 3), ("bob", 5)),) + RECORDS[0][5:]
        self.wrong(4, (record,) + RECORDS[1:])
        for number in (1, 3):
            self.wrong(8, RECORDS + (("forget", number, "eve", 9),))

    def test_a_row_that_is_gone_and_that_none_forgets(self):
        self.wrong(0, RECORDS[:4] + RECORDS[5:])
        self.wrong(0, RECORDS[:4])
        self.wrong(0, RECORDS[:1])
        self.wrong(5, RECORDS[:6] + RECORDS[7:])
        self.changed(0, 4, (plain_gone(("ann", 3)), RECORDS[0][4][1]))
        self.changed(2, 4, (("", 5),))

    def test_a_row_forgotten_ahead_of_its_source(self):
        moved = (("forget", 4, "kim", 8),)
        self.wrong(5, RECORDS[:5] + moved + RECORDS[5:6] + RECORDS[7:])
        self.wrong(5, RECORDS[:5] + moved + RECORDS[5:])
        self.wrong(0, (("forget", 1, "eve", 0),))
        self.wrong(0, (("forget", 1, "eve", 0), ("source", "sold", 0, 1, (("", 5),), 1, "eve", 0)))

    def test_a_row_forgotten_twice(self):
        self.wrong(5, RECORDS[:5] + RECORDS[4:])
        self.wrong(8, RECORDS + (("forget", 2, "kim", 9),))
        self.wrong(8, RECORDS + (("forget", 4, "eve", 10),))

    def test_numbers_that_no_row_has(self):
        for value in BAD_NUMBERS + (0, 5, 10 ** 50, "a2", (2,)):
            self.wrong(8, RECORDS + (("forget", value, "eve", 9),))
        for value in (0, 5, "2", (2,), "a2", None, -2):
            # What was gone is then forgotten by no record.
            self.wrong(0, RECORDS[:4] + (("forget", value, "kim", 8),) + RECORDS[5:])

    def test_each_later_record_that_begins_so_counts(self):
        one = ("source", "sold", 0, 1, (("", 5), ("", 6)), 1, "eve", 3)
        good = ("forget", 1, "eve", 3)
        for other in (("forget", 2), ("forget", 2, None), ("forget", 2, "eve", 2), ("forget", 2, "Eve", 3),
                      ("forget", 2, "eve", 3, 4), ("forget", 2, (), ()), ("forget", 2, "eve", None)):
            self.wrong(2, (one, good, other))
            self.wrong(1, (one, other, good))
            self.wrong(1, (one, None, good, other))
            self.wrong(0, (one, other, other))
        self.wrong(0, (one, good))
        self.wrong(0, (one, good, ("Forget", 2, "eve", 3)))
        self.wrong(0, (one, good, ("source", 2, "eve", 3)))
        self.wrong(0, (one, good, "forget2"))
        self.wrong(0, (one, good, (("forget", 2), "eve", 3)))
        self.assertEqual(rebuilt("a", (one, ("forget", 2, "eve", 3), good)).table("sold", 0), ())

    def test_the_first_by_number_is_told(self):
        for first in range(8):
            for second in range(first + 1, 8):
                records = list(RECORDS)
                for place in (first, second):
                    records[place] = records[place][:-2] + ("Eve", records[place][-1])
                self.wrong(first, tuple(records))

    def test_records_are_not_changed(self):
        records = as_lists(RECORDS) + [["forget", 2, "kim", 9]]
        kept = as_lists(records)
        self.raises(BadRecord, 8, rebuilt, "a", records)
        self.assertEqual(records, kept)


if __name__ == "__main__":
    unittest.main()
