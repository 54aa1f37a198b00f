"""[28], [29]: digests, the texts of records, links, and where two histories part."""

import random
import unittest

from making import Case, any_calls, as_lists, plain_digest, plain_gone, told
from ledgertrace.chain import digest, links, record_text, told_otherwise
from ledgertrace.ledgers import Ledger

MODULUS = 2305843009213693951
# Two rows whose lines have one digest.
ONE = ("knkmomnk", "lnmnkmml", "mmkmmmmn")
OTHER = ("okolkmkn", "nkmlomlm", "llnmmmmk")
SIGNS = "".join(chr(number) for number in range(32, 127) if number != 37) + "\n"

SOURCE = ("source", "sold", 0, 2, (("ann", -3), ("bob", 5), (0, "x")), 1, "eve", 1)
STEP = ("step", "who", 4, "pick(take t, 0)", (("t", "sold", 0), ("uu", "who", 3)), "joe", 2)
FORGET = ("forget", 2, "kim", 30)


def gone(record, *places):
    """The record of a source in which the rows in these places are gone."""
    rows = tuple(plain_gone(row) if at in places else row for at, row in enumerate(record[4]))
    return record[:4] + (rows,) + record[5:]


class Digest(Case):

    def test_by_hand(self):
        self.assertEqual(digest(""), 7)
        self.assertEqual(digest("\n"), 7 * 263 + 11)
        self.assertEqual(digest(" "), 7 * 263 + 33)
        self.assertEqual(digest("a"), 1939)
        self.assertEqual(digest("ab"), 1939 * 263 + 99)
        self.assertEqual(digest("\n\n"), (7 * 263 + 11) * 263 + 11)
        self.assertEqual(digest(text="L"), 7 * 263 + 77)

    def test_line_feeds_and_sequence_count(self):
        texts = ("", "\n", "\n\n", "a", "a\n", "\na", "a\nb", "b\na", "ab", "ba", "a b", "a  b", "A")
        self.assertEqual(len({digest(text) for text in texts}), len(texts))

    def test_modulo(self):
        self.assertEqual(digest("~" * 7), plain_digest("~" * 7))
        self.assertLess(digest("~" * 8), MODULUS)
        source = random.Random(28)
        for _ in range(200):
            text = "".join(source.choice(SIGNS) for _ in range(source.randrange(60)))
            self.assertEqual(digest(text), plain_digest(text))
        self.assertEqual(digest("a" * 100000), plain_digest("a" * 100000))

    def test_unlike_texts_with_one_digest(self):
        self.assertEqual(digest("row " + " ".join(ONE)), digest("row " + " ".join(OTHER)))


class RecordText(Case):

    def text(self, record):
        self.assertEqual(record_text(as_lists(record)), record_text(record))
        self.assertEqual(record_text(record=record), record_text(record))
        return record_text(record)

    def test_source(self):
        self.assertEqual(self.text(SOURCE), "source sold 0 2 1 eve 1\nrow ann -3\nrow bob 5\nrow 0 x\n")
        self.assertEqual(
            self.text(("source", "a", 12, 6, ((-9999, 9999, "abcdefgh", 0, -1, "z"),), 9999, "b", 0)),
            "source a 12 6 9999 b 0\nrow -9999 9999 abcdefgh 0 -1 z\n")

    def test_source_with_rows_that_are_gone(self):
        self.assertEqual(self.text(("source", "sold", 0, 2, (("ann", -3), ("", 17), ("", 0)), 7, "eve", 1)), (
            "source sold 0 2 7 eve 1\nrow ann -3\ngone 17\ngone 0\n"))
        digests = [plain_digest(f"row {row}") for row in ("ann -3", "bob 5", "0 x")]
        self.assertEqual(self.text(gone(SOURCE, 0, 1, 2)), "source sold 0 2 1 eve 1\n" + "".join(
            f"gone {each}\n" for each in digests))

    def test_step(self):
        self.assertEqual(
            self.text(STEP), "step who 4 joe 2\nfrom t sold 0\nfrom uu who 3\nby pick(take t, 0)\n")
        self.assertEqual(
            self.text(("step", "a", 0, "take t", (("t", "b", 10),), "c", 0)), "step a 0 c 0\nfrom t b 10\nby take t\n")

    def test_forget(self):
        self.assertEqual(self.text(FORGET), "forget 2 kim 30\n")
        self.assertEqual(self.text(("forget", 9999, "a", 0)), "forget 9999 a 0\n")

    def test_times_of_very_many_figures(self):
        for time in (10 ** 99, 10 ** 100 - 1, 10 ** 100, 10 ** 100 + 7, 10 ** 300 + 5 * 10 ** 100):
            self.assertEqual(self.text(("forget", 1, "a", time)), f"forget 1 a {time}\n")
        self.assertEqual(record_text(("forget", 1, "a", 10 ** 5000 + 3)), "forget 1 a 1" + "0" * 4999 + "3\n")
        ledger = Ledger("a")
        ledger.source("sold", ((1,),), "eve", 10 ** 5000)
        self.assertEqual(len(links(ledger.records())), 2)


def plain_links(records):
    """The links of records, in another way than the program's."""
    made = [plain_digest("L")]
    for record in records:
        lines = record_text(record).split("\n")
        lines = [f"gone {plain_digest(line)}" if line.startswith("row ") else line for line in lines]
        made.append(plain_digest(f"C{made[-1]} {plain_digest(chr(10).join(lines))}"))
    return tuple(made)


class Links(Case):

    def test_by_hand(self):
        self.assertEqual(links(()), (plain_digest("L"),))
        self.assertEqual(links([]), (1918,))
        one = plain_digest("C1918 " + str(plain_digest("forget 2 kim 30\n")))
        two = plain_digest(f"C{one} " + str(plain_digest(record_text(STEP))))
        self.assertEqual(links((FORGET, STEP)), (1918, one, two))
        lines = "".join(f"gone {plain_digest('row ' + row)}\n" for row in ("ann -3", "bob 5", "0 x"))
        self.assertEqual(links((SOURCE,))[1], plain_digest(
            f"C1918 {plain_digest('source sold 0 2 1 eve 1' + chr(10) + lines)}"))

    def test_forgetting_does_not_change_them(self):
        for places in ((0,), (1, 2), (0, 1, 2)):
            self.assertEqual(links((gone(SOURCE, *places), STEP)), links((SOURCE, STEP)))
        self.assertEqual(links(as_lists((gone(SOURCE, 1), STEP))), links((SOURCE, STEP)))

    def test_each_part_of_a_record_changes_them(self):
        for record in (SOURCE, STEP, FORGET):
            for place, part in enumerate(record):
                other = {str: "zz", int: 77}.get(type(part)) or part[::-1]
                if place > 0:
                    changed = record[:place] + (other,) + record[place + 1:]
                    self.assertEqual(links((record, FORGET))[0], links((changed, FORGET))[0])
                    self.assertNotEqual(links((record, FORGET))[1], links((changed, FORGET))[1])
                    self.assertNotEqual(links((record, FORGET))[2], links((changed, FORGET))[2])

    def test_of_any_ledger(self):
        source = random.Random(29)
        for _ in range(40):
            calls, ledger = any_calls(source, "a", source.randint(1, 20))
            records = ledger.records()
            made = links(records)
            self.assertEqual(made, plain_links(records))
            self.assertEqual(len(made), len(records) + 1)
            # Whatever was forgotten since, the elder links are the beginning of the later ones.
            for end in range(len(calls)):
                self.assertEqual(links(told("a", calls[:end]).records()), made[:end + 1])


class ToldOtherwise(Case):

    def told(self, records, others):
        made = told_otherwise(records, others)
        for one, other in ((as_lists(records), others), (records, as_lists(others)), (as_lists(records), as_lists(others))):
            self.assertEqual(told_otherwise(one, other), made)
        self.assertEqual(told_otherwise(others, records), made)
        self.assertEqual(told_otherwise(others=others, records=records), made)
        return made

    def test_equal_records_and_beginnings(self):
        records = (SOURCE, STEP, FORGET)
        for end in range(4):
            self.assertIsNone(self.told(records, records[:end]))
        self.assertIsNone(self.told((), ()))

    def test_rows_that_are_gone(self):
        for places in ((0,), (1, 2), (0, 1, 2)):
            self.assertIsNone(self.told((gone(SOURCE, *places), STEP), (SOURCE, STEP)))
            self.assertIsNone(self.told((gone(SOURCE, *places), STEP, FORGET), (SOURCE,)))
            self.assertIsNone(self.told((gone(SOURCE, *places), STEP), (gone(SOURCE, 0), STEP)))

    def test_rows_that_are_gone_and_others(self):
        for rows in ((("ann", -3), ("bob", 6), (0, "x")), (("ann", -3), ("", 5), (0, "x")),
                     (("ann", -3), plain_gone(("bob", 6)), (0, "x")), (("ann", -3), (5, "bob"), (0, "x"))):
            other = SOURCE[:4] + (rows,) + SOURCE[5:]
            self.assertEqual(self.told((gone(SOURCE, 1), STEP), (other, STEP)), ("unlike", 0))
            self.assertEqual(self.told((FORGET, SOURCE), (FORGET, other, STEP)), ("unlike", 1))

    def test_other_parts(self):
        for at, record in enumerate((SOURCE, STEP, FORGET)):
            for place, part in enumerate(record):
                other = {str: "zz", int: 77}.get(type(part)) or part[::-1]
                if place > 0:
                    changed = record[:place] + (other,) + record[place + 1:]
                    self.assertEqual(self.told((FORGET,) * at + (record,), (FORGET,) * at + (changed, STEP)), ("unlike", at))

    def test_other_kinds_and_lengths(self):
        for one, other in ((SOURCE, STEP), (SOURCE, FORGET), (STEP, FORGET)):
            self.assertEqual(self.told((one,), (other,)), ("unlike", 0))
            self.assertEqual(self.told((STEP, one, one), (STEP, other, one)), ("unlike", 1))
        shorter = SOURCE[:4] + (SOURCE[4][:2],) + SOURCE[5:]
        self.assertEqual(self.told((SOURCE,), (shorter,)), ("unlike", 0))
        self.assertEqual(self.told((gone(SOURCE, 0),), (shorter,)), ("unlike", 0))
        inputs = STEP[:4] + (STEP[4][:1],) + STEP[5:]
        self.assertEqual(self.told((STEP,), (inputs,)), ("unlike", 0))

    def test_the_first_is_told(self):
        other = FORGET[:2] + ("bob", 30)
        self.assertEqual(self.told((SOURCE, FORGET, FORGET, STEP), (SOURCE, other, other, STEP)), ("unlike", 1))
        self.assertEqual(self.told((SOURCE, FORGET, FORGET), (SOURCE, FORGET, other)), ("unlike", 2))

    def test_a_collision(self):
        one = ("source", "sold", 0, 3, ((1, 2, 3), ONE), 1, "eve", 1)
        other = ("source", "sold", 0, 3, ((1, 2, 3), OTHER), 1, "eve", 1)
        self.assertEqual(self.told((one,), (other,)), ("collision", 0))
        self.assertEqual(self.told((FORGET, one, STEP), (FORGET, other)), ("collision", 1))
        # Only the first record with unlike ones is looked at.
        self.assertEqual(self.told((one, STEP), (other, FORGET)), ("collision", 0))
        self.assertEqual(self.told((STEP, one), (FORGET, other)), ("unlike", 0))
        # A row that is gone is like each row with its digest.
        self.assertEqual(gone(one, 1), gone(other, 1))
        self.assertIsNone(self.told((gone(one, 1),), (other,)))
        self.assertIsNone(self.told((gone(other, 0, 1),), (one,)))
        self.assertEqual(self.told((gone(one, 0),), (other,)), ("collision", 0))
        changed = other[:6] + ("bob", 1)
        self.assertEqual(self.told((one,), (changed,)), ("unlike", 0))

    def test_any_ledger(self):
        source = random.Random(291)
        for _ in range(40):
            calls, ledger = any_calls(source, "a", source.randint(2, 15))
            end = source.randrange(len(calls))
            self.assertIsNone(self.told(ledger.records(), told("a", calls[:end]).records()))
            kind, *rest = calls[end]
            other = told("a", calls[:end])
            getattr(other, kind)(*rest[:-2], "zoe", rest[-1])
            self.assertEqual(self.told(ledger.records(), other.records()), ("unlike", end))


if __name__ == "__main__":
    unittest.main()
