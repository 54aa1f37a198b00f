"""[32]: of the records of a ledger those that some artifacts need."""

import random
import unittest

from making import ANY_VALUES, BAD_NAMES, Case, any_calls, as_lists, deep, has_list, plain_gone
from test_ledgers import BAD_NUMBERS
from test_merging import renamed
from test_rebuilt import RECORDS
from ledgertrace.compacting import compacted, kept_versions
from ledgertrace.errors import BadRecord, BadValue
from ledgertrace.ledgers import Ledger, rebuilt

T = ("take", "t")


def made():
    """The records of a ledger with four sources and three steps."""
    ledger = Ledger("a")
    ledger.source("sold", (("ann",), ("bob",)), "eve", 1)
    ledger.source("sold", (("kim",), ("kim",), ("zoe",)), "eve", 2)
    ledger.source("paid", ((1,),), "eve", 3)
    ledger.step("who", T, (("t", "sold", 1),), "joe", 4)
    ledger.forget("a1", "eve", 4)
    ledger.forget("a4", "eve", 5)
    ledger.source("sold", (("x",), ("y",)), "eve", 6)
    ledger.step("who", ("both", T, ("take", "u")), (("t", "who", 0), ("u", "sold", 2)), "joe", 7)
    ledger.step("last", T, (("t", "who", 1), ("u", "paid", 0)), "joe", 8)
    ledger.forget("a6", "eve", 9)
    return ledger.records()


def numbers_of(records):
    """The numbers of all tokens of records, in their sequence."""
    return [record[5] + at for record in records if record[0] == "source" for at in range(len(record[4]))]


class Compacting(Case):

    def compacted(self, records, roots):
        told, kept = compacted(records, roots), kept_versions(records, roots)
        self.assertEqual(compacted(*as_lists((records, roots))), told)
        self.assertEqual(kept_versions(*as_lists((records, roots))), kept)
        self.assertEqual(compacted(roots=roots[::-1] + roots, records=records), told)
        self.assertEqual(kept_versions(roots=roots[::-1] + roots, records=records), kept)
        self.assertFalse(has_list((told, kept, compacted(*as_lists((records, roots))))))
        self.assertFalse(has_list(kept_versions(*as_lists((records, roots)))))
        return told, kept

    def test_versions_that_go_in_the_middle_of_a_name(self):
        told, kept = self.compacted(made(), (("sold", 2), ("sold", 0)))
        self.assertEqual(told, (
            ("source", "sold", 0, 1, (plain_gone(("ann",)), ("bob",)), 1, "eve", 1),
            ("forget", 1, "eve", 4),
            ("source", "sold", 1, 1, (("x",), ("y",)), 3, "eve", 6)))
        self.assertEqual(kept, (("sold", 0, 0), ("sold", 2, 1)))

    def test_inputs_and_theirs(self):
        told, kept = self.compacted(made(), (("who", 1),))
        self.assertEqual(told, (
            ("source", "sold", 0, 1, (("kim",), plain_gone(("kim",)), ("zoe",)), 1, "eve", 2),
            ("step", "who", 0, "take t", (("t", "sold", 0),), "joe", 4),
            ("forget", 2, "eve", 5),
            ("source", "sold", 1, 1, (("x",), ("y",)), 4, "eve", 6),
            ("step", "who", 1, "both(take t, take u)", (("t", "who", 0), ("u", "sold", 1)), "joe", 7)))
        self.assertEqual(kept, (("sold", 1, 0), ("sold", 2, 1), ("who", 0, 0), ("who", 1, 1)))

    def test_inputs_that_no_take_takes(self):
        told, kept = self.compacted(made(), (("last", 0),))
        self.assertEqual(kept, (("last", 0, 0), ("paid", 0, 0), ("sold", 1, 0), ("sold", 2, 1), ("who", 0, 0), ("who", 1, 1)))
        self.assertEqual(told[-2:], (
            ("step", "last", 0, "take t", (("t", "who", 1), ("u", "paid", 0)), "joe", 8), ("forget", 4, "eve", 9)))
        self.assertEqual(len(told), 8)

    def test_no_roots(self):
        for records in ((), made(), RECORDS):
            self.assertEqual(self.compacted(records, ()), ((), ()))

    def test_all_roots(self):
        roots = (("sold", 0), ("sold", 1), ("sold", 2), ("paid", 0), ("who", 0), ("who", 1), ("last", 0))
        told, kept = self.compacted(made(), roots)
        self.assertEqual(told, made())
        self.assertEqual(kept, tuple((name, version, version) for name, version in sorted(roots)))

    def test_some_roots_twice(self):
        self.assertEqual(
            self.compacted(made(), (("paid", 0), ("sold", 0), ("paid", 0))), self.compacted(made(), (("sold", 0), ("paid", 0))))

    def test_forgotten_rows_of_what_goes(self):
        told, _ = self.compacted(made(), (("paid", 0),))
        self.assertEqual(told, (("source", "paid", 0, 1, (plain_gone((1,)),), 1, "eve", 3), ("forget", 1, "eve", 9)))

    def test_kept_versions_rise_by_name_and_number(self):
        ledger = Ledger("a")
        for _ in range(12):
            ledger.source("s", ((1,),), "eve", 1)
        ledger.source("b", ((1,),), "eve", 1)
        roots = (("s", 10), ("s", 2), ("s", 11), ("b", 0))
        self.assertEqual(self.compacted(ledger.records(), roots)[1], (("b", 0, 0), ("s", 2, 0), ("s", 10, 1), ("s", 11, 2)))

    def test_any_ledger(self):
        source = random.Random(32)
        for _ in range(100):
            _, ledger = any_calls(source, "a", source.randint(1, 20))
            places = [(name, version) for name in ledger.names() for version in range(ledger.versions(name))]
            roots = tuple(source.choice(places) for _ in range(source.randrange(4)))
            told, kept = self.compacted(ledger.records(), roots)
            # What stays is what the roots need, and no more.
            waiting, needed = list(roots), set()
            steps = {record[1:3]: record for record in ledger.records() if record[0] != "forget"}
            while waiting:
                place = waiting.pop()
                needed.add(place)
                if steps[place][0] == "step":
                    waiting += [pair[1:] for pair in steps[place][4]]
            self.assertEqual([(name, elder) for name, elder, _ in kept], sorted(needed))
            whole = rebuilt("m", told)
            self.assertEqual(whole.records(), told)
            elder = numbers_of([record for record in ledger.records() if record[1:3] in needed])
            pairs = list(zip(elder, range(1, len(elder) + 1)))
            for name, version, newer in kept:
                self.assertEqual(whole.table(name, newer), renamed(ledger.table(name, version), "a", pairs))
                self.assertEqual(whole.width(name, newer), ledger.width(name, version))
                self.assertEqual(whole.maker(name, newer), ledger.maker(name, version))
            self.assertEqual(len(whole.tokens_left()), len([
                each for each in ledger.tokens_left() if (each[1], each[2]) in needed]))
            # Once more it changes nothing.
            news = {(name, version): newer for name, version, newer in kept}
            again = tuple((name, news[name, version]) for name, version in roots)
            self.assertEqual(self.compacted(told, again), (told, tuple((name, newer, newer) for name, _, newer in kept)))

    def test_nothing_is_changed(self):
        records, roots = as_lists(made()), [["who", 1], ["sold", 0]]
        kept = as_lists(records), as_lists(roots)
        told = compacted(records, roots)
        kept_versions(records, roots)
        self.assertEqual((records, roots), kept)
        records[0][4].clear()
        records.clear()
        self.assertEqual(told, compacted(made(), (("who", 1), ("sold", 0))))


class WrongCompacting(Case):

    def wrong(self, error, argument, records, roots):
        for call in (compacted, kept_versions):
            self.raises(error, argument, call, records, roots)
            self.raises(error, argument, call, as_lists(records), as_lists(roots))

    def test_any_value_as_roots(self):
        self.wrong(BadValue, 1, made(), ("who", 1))
        for value in ANY_VALUES + ("who", deep(lambda part: (part,), ())):
            if value not in ((), []):
                self.wrong(BadValue, 1, made(), value)
            self.wrong(BadValue, 1, made(), (value,))
            self.wrong(BadValue, 1, made(), (("who", 1), value))

    def test_roots_that_are_not_there(self):
        for root in (("who", 2), ("who", -1), ("none", 0), ("", 0), ("sold", 3), ("Who", 0), ("last", 1)):
            self.wrong(BadValue, 1, made(), (root,))
            self.wrong(BadValue, 1, made(), (("who", 1), root))
        self.wrong(BadValue, 1, (), (("who", 0),))

    def test_roots_that_are_no_pairs(self):
        for root in (("who",), ("who", 1, 1), (0, "who"), (), "who", ("who", "1"), ("who", (1,))):
            self.wrong(BadValue, 1, made(), (root, ("who", 0)))
        for name in BAD_NAMES:
            self.wrong(BadValue, 1, made(), ((name, 0),))
        for version in BAD_NUMBERS:
            self.wrong(BadValue, 1, made(), (("who", version),))

    def test_records_are_first(self):
        for value in ANY_VALUES:
            if value not in ((), []):
                self.wrong(BadRecord, 0, value, None)
                self.wrong(BadRecord, 0, value, ())
        self.wrong(BadRecord, 10, made() + (None,), (("none", 0),))
        self.wrong(BadRecord, 0, made()[1:], ())
        self.wrong(BadRecord, 2, made()[:9], ())


if __name__ == "__main__":
    unittest.main()
