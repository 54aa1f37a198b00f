"""[19]: who may see what, and what would let a person see it."""

import itertools
import random
import unittest

from making import Case, any_poly, any_program, any_table, as_lists
from ledgertrace.errors import TooMany
from ledgertrace.measures import valued
from ledgertrace.polys import ONE, ZERO, read_poly, replaced, tokens_of
from ledgertrace.running import run
from ledgertrace.secrets_flow import leaks, seen_table, seers
from ledgertrace.tables import rows_of

PERSONS = ("ann", "bob", "eve")
GRANTS = (("b1", ("ann",)), ("a1", ("ann", "bob")), ("a10", ("eve",)), ("z1", ("ann", "bob", "eve", "joe")), ("c1", ()))


def at(row, text):
    return (row, read_poly(text))


TABLE = (
    at((1, "a"), "a1"), at((2, "a"), "a1*b1 + a10"), at((2, "b"), "a2"), at((3, "a"), "a1*a2 + b1*c1"),
    at(("a", 1), "3 + a2"))


class Seers(Case):

    def seers(self, text, persons=PERSONS, grants=GRANTS):
        p = read_poly(text)
        made = seers(p, grants, persons)
        self.assertEqual(seers(*as_lists((p, grants, persons))), made)
        self.assertEqual(seers(p, grants[::-1], persons), made)
        return made

    def test_all_tokens_of_some_term(self):
        self.assertEqual(self.seers("a1"), ("ann", "bob"))
        self.assertEqual(self.seers("a1*b1"), ("ann",))
        self.assertEqual(self.seers("a1*b1 + a10"), ("ann", "eve"))
        self.assertEqual(self.seers("a1 + a10"), ("ann", "bob", "eve"))
        self.assertEqual(self.seers("a1*a10"), ())
        self.assertEqual(self.seers("7*a1*a10 + 2*a1^3*b1"), ("ann",))

    def test_tokens_that_grants_lacks_are_seen_by_nobody(self):
        self.assertEqual(self.seers("a2"), ())
        self.assertEqual(self.seers("a1*a2"), ())
        self.assertEqual(self.seers("a1 + a2"), ("ann", "bob"))
        self.assertEqual(self.seers("a100"), ())
        self.assertEqual(self.seers("a1", grants=()), ())
        self.assertEqual(self.seers("c1"), ())

    def test_the_empty_monomial_and_zero(self):
        self.assertEqual(self.seers("1"), PERSONS)
        self.assertEqual(self.seers("1 + a2"), PERSONS)
        self.assertEqual(self.seers("1", grants=()), PERSONS)
        self.assertEqual(self.seers("0"), ())

    def test_of_persons_alone(self):
        self.assertEqual(self.seers("z1"), PERSONS)
        self.assertEqual(self.seers("z1", persons=("bob", "joe", "kim")), ("bob", "joe"))
        self.assertEqual(self.seers("1", persons=("kim",)), ("kim",))
        self.assertEqual(self.seers("z1", persons=("kim", "zoe")), ())
        self.assertEqual(self.seers("1", persons=()), ())

    def test_it_is_the_measure(self):
        source = random.Random(19)
        for _ in range(200):
            grants = any_grants(source, ("a1", "a10", "a2", "b1"))
            p = any_poly(source)
            self.assertEqual(seers(p, grants, PERSONS), valued(p, "seen", grants + [("", PERSONS)]))


def any_grants(source, tokens):
    return [(token, tuple(person for person in PERSONS if source.random() < 0.5)) for token in tokens]


class SeenTables(Case):

    def test_rows_that_a_person_may_see(self):
        self.assertEqual(seen_table(TABLE, GRANTS, "ann"), ((1, "a"), (2, "a"), ("a", 1)))
        self.assertEqual(seen_table(TABLE, GRANTS, "bob"), ((1, "a"), ("a", 1)))
        self.assertEqual(seen_table(TABLE, GRANTS, "eve"), ((2, "a"), ("a", 1)))
        self.assertEqual(seen_table(as_lists(TABLE), as_lists(GRANTS), "eve"), ((2, "a"), ("a", 1)))

    def test_a_person_that_no_grant_names(self):
        self.assertEqual(seen_table(TABLE, GRANTS, "kim"), (("a", 1),))
        self.assertEqual(seen_table(TABLE, (), "ann"), (("a", 1),))
        # A part of a name is not the name.
        self.assertEqual(seen_table(TABLE, GRANTS, "an"), (("a", 1),))

    def test_no_rows(self):
        self.assertEqual(seen_table((), GRANTS, "ann"), ())

    def test_it_is_where_the_person_is_a_seer(self):
        source = random.Random(191)
        for _ in range(100):
            table = any_table(source, 2, ("a1", "a10", "b1"))
            grants = any_grants(source, ("a1", "a10"))
            for person in PERSONS + ("kim",):
                self.assertEqual(
                    seen_table(table, grants, person), tuple(row for row, p in table if seers(p, grants, (person,))))

    def test_what_is_made_of_what_a_person_may_see(self):
        source = random.Random(192)
        tokens = ("a1", "a10", "b1", "c1")
        for _ in range(150):
            tables = [("t", 2, any_table(source, 2, tokens)), ("u", 1, any_table(source, 1, tokens))]
            program, _ = any_program(source, {"t": 2, "u": 1}, source.randint(1, 8))
            grants = any_grants(source, tokens[:3])
            person = source.choice(PERSONS)
            held = [token for token, persons in grants if person in persons]
            gone = [(token, ZERO) for token in tokens if token not in held]
            cut = [
                (name, width, tuple((row, replaced(p, gone)) for row, p in table if replaced(p, gone)))
                for name, width, table in tables]
            try:
                made = run(program, tables)
            except TooMany:
                continue
            self.assertEqual(rows_of(run(program, cut)), seen_table(made, grants, person))


class Leaks(Case):

    def test_least_sets_that_let_the_person_see(self):
        self.assertEqual(leaks(TABLE, GRANTS, "ann"), (((2, "b"), (("a2",),)), ((3, "a"), (("a2",), ("c1",)))))
        self.assertEqual(leaks(TABLE, GRANTS, "bob"), (
            ((2, "a"), (("a10",), ("b1",))), ((2, "b"), (("a2",),)), ((3, "a"), (("a2",), ("b1", "c1")))))
        self.assertEqual(leaks(TABLE, GRANTS, "eve"), (
            ((1, "a"), (("a1",),)), ((2, "b"), (("a2",),)), ((3, "a"), (("a1", "a2"), ("b1", "c1")))))
        self.assertEqual(leaks(as_lists(TABLE), as_lists(GRANTS), "ann"), leaks(TABLE, GRANTS, "ann"))

    def test_a_person_that_no_grant_names(self):
        made = leaks(TABLE, GRANTS, "kim")
        self.assertEqual(made, leaks(TABLE, (), "ann"))
        self.assertEqual([row for row, _ in made], [(1, "a"), (2, "a"), (2, "b"), (3, "a")])
        self.assertEqual(made[1], ((2, "a"), (("a10",), ("a1", "b1"))))

    def test_nothing_leaks(self):
        self.assertEqual(leaks((), GRANTS, "ann"), ())
        self.assertEqual(leaks(TABLE[:1], GRANTS, "ann"), ())
        self.assertEqual(leaks((((1,), ONE),), (), "ann"), ())

    def test_what_is_granted_counts_ahead_of_least(self):
        # Of the terms a1*a2 and a2*b1*c1 the second one lacks more tokens, but not for who has b1 and c1.
        table = (at((1,), "a1*a2 + a2*b1*c1"),)
        self.assertEqual(leaks(table, (), "ann"), (((1,), (("a1", "a2"), ("a2", "b1", "c1"))),))
        self.assertEqual(leaks(table, (("b1", ("ann",)), ("c1", ("ann",))), "ann"), (((1,), (("a2",),)),))

    def test_any_table(self):
        source = random.Random(193)
        tokens = ("a1", "a10", "b1", "c1")
        for _ in range(80):
            table = any_table(source, 1, tokens)
            grants = any_grants(source, tokens[:3])
            person = source.choice(PERSONS)
            held = [token for token, persons in grants if person in persons]
            self.assertEqual(leaks(table, grants, person), tuple(
                (row, plain_leaks(p, held)) for row, p in table if not seers(p, grants, (person,))))


def plain_leaks(p, held):
    """The least sets that, besides those held, are enough, by trying all of them."""
    found = []
    others = [token for token in tokens_of(p) if token not in held]
    for size in range(len(others) + 1):
        for each in itertools.combinations(others, size):
            given = [(token, token in held or token in each) for token in tokens_of(p)]
            if valued(p, "there", given) and not any(set(other) <= set(each) for other in found):
                found.append(each)
    return tuple(found)


if __name__ == "__main__":
    unittest.main()
