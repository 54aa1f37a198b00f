"""[31]: the records of two ledgers in one."""

import random
import unittest

from making import ANY_VALUES, Case, any_calls, as_lists, has_list, plain_gone
from test_ledgers import state
from test_rebuilt import RECORDS
from ledgertrace.errors import BadRecord, TooMany, Unlike
from ledgertrace.ledgers import Ledger, rebuilt
from ledgertrace.merging import merged, renumbered
from ledgertrace.polys import of_token, replaced

T = ("take", "t")


def one():
    ledger = Ledger("a")
    ledger.source("sold", (("ann", 3), ("bob", 5)), "eve", 1)
    ledger.step("who", ("pick", T, (0,)), (("t", "sold", 0),), "joe", 3)
    ledger.source("sold", (("zoe", 1),), "eve", 5)
    ledger.forget("a2", "kim", 5)
    return ledger.records()


def other():
    ledger = Ledger("b")
    ledger.source("paid", ((1,), (2,), (2,)), "ann", 3)
    ledger.forget("b1", "ann", 3)
    ledger.step("made", T, (("t", "paid", 0),), "ann", 4)
    ledger.source("paid", ((7,),), "ann", 5)
    ledger.forget("b3", "ann", 6)
    return ledger.records()


def renamed(table, letter, pairs):
    """The table with these new numbers for its tokens, of the ledger "m"."""
    news = [(f"{letter}{elder}", of_token(f"m{newer}")) for elder, newer in pairs]
    return tuple((row, replaced(p, news)) for row, p in table)


class Merging(Case):

    def merged(self, records, others):
        made, pairs = merged(records, others), renumbered(records, others)
        self.assertEqual(merged(*as_lists((records, others))), made)
        self.assertEqual(renumbered(*as_lists((records, others))), pairs)
        self.assertEqual(merged(others=others, records=records), made)
        self.assertEqual(renumbered(others=others, records=records), pairs)
        self.assertFalse(has_list((made, pairs)))
        self.assertFalse(has_list((merged(*as_lists((records, others))), renumbered(*as_lists((records, others))))))
        return made, pairs

    def test_by_hand(self):
        made, pairs = self.merged(one(), other())
        self.assertEqual(made, (
            ("source", "sold", 0, 2, (("ann", 3), plain_gone(("bob", 5))), 1, "eve", 1),
            ("step", "who", 0, "pick(take t, 0)", (("t", "sold", 0),), "joe", 3),
            ("source", "paid", 0, 1, (plain_gone((1,)), (2,), plain_gone((2,))), 3, "ann", 3),
            ("forget", 3, "ann", 3),
            ("step", "made", 0, "take t", (("t", "paid", 0),), "ann", 4),
            ("source", "sold", 1, 2, (("zoe", 1),), 6, "eve", 5),
            ("forget", 2, "kim", 5),
            ("source", "paid", 1, 1, ((7,),), 7, "ann", 5),
            ("forget", 5, "ann", 6)))
        self.assertEqual(pairs, (((1, 1), (2, 2), (3, 6)), ((1, 3), (2, 4), (3, 5), (4, 7))))

    def test_the_other_way_round(self):
        made, pairs = self.merged(other(), one())
        self.assertEqual([record[:3] for record in made], [
            ("source", "sold", 0), ("source", "paid", 0), ("forget", 3, "ann"), ("step", "who", 0), ("step", "made", 0),
            ("source", "paid", 1), ("source", "sold", 1), ("forget", 2, "kim"), ("forget", 5, "ann")])
        self.assertEqual(pairs, (((1, 3), (2, 4), (3, 5), (4, 6)), ((1, 1), (2, 2), (3, 7))))

    def test_at_equal_times_all_of_records_are_ahead(self):
        ledgers = Ledger("a"), Ledger("a")
        for ledger, name in zip(ledgers, "pq"):
            for cell in range(3):
                ledger.source(name, ((cell,),), "eve", 4)
        made, pairs = self.merged(ledgers[0].records(), ledgers[1].records())
        self.assertEqual([record[1:3] for record in made], [("p", 0), ("p", 1), ("p", 2), ("q", 0), ("q", 1), ("q", 2)])
        self.assertEqual(pairs, (((1, 1), (2, 2), (3, 3)), ((1, 4), (2, 5), (3, 6))))

    def test_no_records(self):
        self.assertEqual(self.merged((), ()), ((), ((), ())))
        self.assertEqual(self.merged(RECORDS, ()), (RECORDS, (((1, 1), (2, 2), (3, 3), (4, 4)), ())))
        self.assertEqual(self.merged((), RECORDS), (RECORDS, ((), ((1, 1), (2, 2), (3, 3), (4, 4)))))

    def test_tables_are_those_of_the_own_ledgers(self):
        source = random.Random(31)
        for _ in range(60):
            ledgers = [any_calls(source, letter, source.randint(0, 14), names)[1] for letter, names in (
                ("a", ("p", "q")), ("b", ("n", "r", "s")))]
            made, pairs = self.merged(ledgers[0].records(), ledgers[1].records())
            whole = rebuilt("m", made)
            self.assertEqual(whole.records(), made)
            self.assertEqual(len(made), len(ledgers[0].records()) + len(ledgers[1].records()))
            self.assertEqual([record[-1] for record in made], sorted(record[-1] for record in made))
            self.assertEqual(whole.names(), tuple(sorted(ledgers[0].names() + ledgers[1].names())))
            for ledger, each in zip(ledgers, pairs):
                self.assertEqual([elder for elder, _ in each], list(range(1, len(ledger.homes) + 1)))
                for name in ledger.names():
                    self.assertEqual(whole.versions(name), ledger.versions(name))
                    for version in range(ledger.versions(name)):
                        self.assertEqual(
                            whole.table(name, version), renamed(ledger.table(name, version), ledger.letter, each))
                        for method in ("width", "maker", "sources_of"):
                            self.assertEqual(
                                getattr(whole, method)(name, version), getattr(ledger, method)(name, version))
                kinds = [record for record in made if record[0] != "forget" and record[1] in ledger.names()]
                own = [record for record in ledger.records() if record[0] != "forget"]
                self.assertEqual([record[:5] for record in kinds], [record[:5] for record in own])
            newer = [number for each in pairs for _, number in each]
            self.assertEqual(sorted(newer), list(range(1, len(newer) + 1)))

    def test_it_goes_on(self):
        whole = rebuilt("m", merged(one(), other()))
        self.assertEqual([each[0] for each in whole.tokens_left()], ["m1", "m4", "m6", "m7"])
        whole.source("paid", ((9,),), "eve", 6)
        whole.forget("m8", "eve", 6)
        again = rebuilt("m", merged(whole.records(), ()))
        self.assertEqual(state(again), state(whole))

    def test_nothing_is_changed(self):
        records, others = as_lists(one()), as_lists(other())
        kept = as_lists(records), as_lists(others)
        made = merged(records, others)
        self.assertEqual((records, others), kept)
        records[0][4].clear()
        others.clear()
        self.assertEqual(made, merged(one(), other()))


class WrongMerging(Case):

    def wrong(self, error, argument, records, others):
        for call in (merged, renumbered):
            self.raises(error, argument, call, records, others)
            self.raises(error, argument, call, as_lists(records), as_lists(others))

    def test_what_are_no_records(self):
        for value in ANY_VALUES:
            if value not in ((), []):
                self.wrong(BadRecord, 0, value, other())
                self.wrong(BadRecord, 0, one(), value)
                self.wrong(BadRecord, 0, value, value)
        self.wrong(BadRecord, 4, one() + (None,), other())
        self.wrong(BadRecord, 5, one(), other() + (None,))
        self.wrong(BadRecord, 0, one()[:3], other())
        self.wrong(BadRecord, 0, one(), other()[:4])

    def test_records_are_ahead_of_others(self):
        self.wrong(BadRecord, 4, one() + (None,), other()[1:])
        self.wrong(BadRecord, 0, one()[1:], other() + (None,))

    def test_one_name_in_both(self):
        self.wrong(Unlike, "sold", RECORDS, RECORDS)
        ledger = Ledger("a")
        for name in ("new", "who", "sold", "who"):
            ledger.source(name, ((1,),), "eve", 9)
        self.wrong(Unlike, "who", one(), ledger.records())
        self.wrong(Unlike, "sold", ledger.records(), one())
        self.wrong(BadRecord, 4, one(), ledger.records() + (None,))

    def test_too_many_tokens(self):
        ledgers = Ledger("a"), Ledger("b"), Ledger("c")
        for ledger, name, many in zip(ledgers, ("p", "q", "p"), (13, 12, 12)):
            for _ in range(many - 1):
                ledger.source(name, ((1,),) * 400, "eve", 1)
            ledger.source(name, ((1,),) * (399 if many == 13 else 400), "eve", 1)
        one, other, like = [ledger.records() for ledger in ledgers]
        made = merged(one, other)
        self.assertEqual(made[-1][5], 9600)
        self.assertEqual(renumbered(one, other)[1][-1], (4800, 9999))
        more = other + (("source", "last", 0, 1, ((1,),), 4801, "eve", 1),)
        self.wrong(TooMany, "tokens", one, more)
        self.wrong(TooMany, "tokens", more, one)
        # Rows that are forgotten count, too.
        gone = other[:-1] + (other[-1][:4] + ((plain_gone((1,)),) * 2 + ((1,),) * 398,) + other[-1][5:],)
        gone += (("forget", 4402, "eve", 1), ("source", "last", 0, 1, ((1,),), 4801, "eve", 1), ("forget", 4401, "eve", 1))
        self.wrong(TooMany, "tokens", one, gone)
        self.wrong(Unlike, "p", one, like + (("source", "last", 0, 1, ((1,),), 4801, "eve", 1),))
        self.wrong(BadRecord, 13, one, more + (None,))


if __name__ == "__main__":
    unittest.main()
