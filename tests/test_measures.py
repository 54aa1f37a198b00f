"""[6], [7]: values by measure, and the measures' own sums and products."""

import random
import unittest

from making import GREATEST, Case, any_poly, named, product_of, sum_of
from ledgertrace.errors import NothingThere, TooMany
from ledgertrace.measures import (
    MEASURES, measured_one, measured_plus, measured_times, measured_zero, valued)
from ledgertrace.polys import ONE, ZERO, of_token, plus, read_poly, times

PERSONS = ("ann", "bob", "eve")
ALL = ("", PERSONS)
# The greatest number of 4,000 figures.
MOST = 10 ** 4000 - 1


class Names(Case):

    def test_the_measures(self):
        self.assertEqual(MEASURES, ("count", "cost", "trust", "there", "seen"))


class Count(Case):

    def count(self, text, *pairs):
        return valued(read_poly(text), "count", pairs)

    def test_sums_of_products(self):
        self.assertEqual(self.count("0"), 0)
        self.assertEqual(self.count("1"), 1)
        self.assertEqual(self.count("7"), 7)
        self.assertEqual(self.count("5 + 2*a1^3*b1 + b1", ("a1", 3), ("b1", 4)), 5 + 2 * 27 * 4 + 4)
        self.assertEqual(self.count("a1^2*b1^5", ("a1", 10), ("b1", 3)), 100 * 243)

    def test_a_value_0_makes_0_whatever_else_stands_there(self):
        self.assertEqual(self.count("a1*b1", ("a1", 0), ("b1", 5)), 0)
        self.assertEqual(self.count(f"a1*b1^{GREATEST}", ("a1", 0), ("b1", 2)), 0)
        self.assertEqual(self.count(f"a1^{GREATEST}*b1", ("a1", 9), ("b1", 0)), 0)
        self.assertEqual(self.count(f"a1^{GREATEST}*b1 + b2", ("a1", MOST), ("b1", 0), ("b2", 8)), 8)

    def test_0_and_1_under_an_exponent_of_100_figures(self):
        self.assertEqual(self.count(f"3*a1^{GREATEST}", ("a1", 1)), 3)
        self.assertEqual(self.count(f"3*a1^{GREATEST}", ("a1", 0)), 0)
        p = product_of(named("a", 500))
        tall = ((tuple((token, GREATEST) for token, _ in p[0][0]), 2),)
        self.assertEqual(valued(tall, "count", [(token, 1) for token, _ in p[0][0]]), 2)
        self.raises(TooMany, "figures", self.count, f"a1^{GREATEST}", ("a1", 2))

    def test_4000_and_4001_figures(self):
        self.assertEqual(self.count("a1", ("a1", MOST)), MOST)
        self.assertEqual(self.count("a1 + b1", ("a1", MOST - 1), ("b1", 1)), MOST)
        self.raises(TooMany, "figures", self.count, "a1 + b1", ("a1", MOST), ("b1", 1))
        self.raises(TooMany, "figures", self.count, "1 + a1", ("a1", MOST))
        self.assertEqual(self.count("a1^3999", ("a1", 10)), 10 ** 3999)
        self.raises(TooMany, "figures", self.count, "a1^4000", ("a1", 10))
        self.assertEqual(self.count("9*a1^3999", ("a1", 10)), 9 * 10 ** 3999)
        self.raises(TooMany, "figures", self.count, "10*a1^3999", ("a1", 10))
        self.assertEqual(self.count("a1*b1", ("a1", 10 ** 2000), ("b1", 10 ** 1999)), 10 ** 3999)
        self.raises(TooMany, "figures", self.count, "a1*b1", ("a1", 10 ** 2000), ("b1", 10 ** 2000))
        self.assertEqual(self.count("a1^13287", ("a1", 2)), 2 ** 13287)
        self.raises(TooMany, "figures", self.count, "a1^13288", ("a1", 2))

    def test_powers_are_exact(self):
        for value in (2, 3, 7, 10 ** 30 + 1):
            for exponent in range(1, 40):
                p = (((("a1", exponent),), 1),)
                self.assertEqual(valued(p, "count", (("a1", value),)), value ** exponent)


class Cost(Case):

    def cost(self, text, *pairs):
        return valued(read_poly(text), "cost", pairs)

    def test_the_least_sum(self):
        self.assertEqual(self.cost("a1*b1 + c1", ("a1", 2), ("b1", 3), ("c1", 6)), 5)
        self.assertEqual(self.cost("a1*b1 + c1", ("a1", 2), ("b1", 3), ("c1", 4)), 4)
        self.assertEqual(self.cost("9*a1", ("a1", 2)), 2)
        self.assertEqual(self.cost("a1^3*b1^2", ("a1", 5), ("b1", 7)), 29)
        self.assertEqual(self.cost(f"a1^{GREATEST}", ("a1", MOST)), MOST * GREATEST)

    def test_the_empty_monomial_and_zero(self):
        self.assertEqual(self.cost("1"), 0)
        self.assertEqual(self.cost("1 + a1", ("a1", None)), 0)
        self.assertEqual(self.cost("5 + a1", ("a1", 0)), 0)
        self.assertIsNone(self.cost("0"))
        self.assertIsNone(self.cost("0", ("a1", 3)))

    def test_none_is_above_all_numbers(self):
        self.assertIsNone(self.cost("a1", ("a1", None)))
        self.assertIsNone(self.cost("a1^2*b1", ("a1", None), ("b1", 0)))
        self.assertIsNone(self.cost("a1*b1^7", ("a1", 0), ("b1", None)))
        self.assertIsNone(self.cost("a1 + b1", ("a1", None), ("b1", None)))
        self.assertEqual(self.cost("a1 + b1", ("a1", None), ("b1", 10 ** 50)), 10 ** 50)
        self.assertEqual(self.cost("a1 + b1", ("a1", 0), ("b1", None)), 0)


class Trust(Case):

    def trust(self, text, *pairs):
        return valued(read_poly(text), "trust", pairs)

    def test_the_greatest_least_value(self):
        self.assertEqual(self.trust("a1*b1 + c1", ("a1", 80), ("b1", 60), ("c1", 50)), 60)
        self.assertEqual(self.trust("a1*b1 + c1", ("a1", 80), ("b1", 60), ("c1", 70)), 70)
        self.assertEqual(self.trust("3*a1^9", ("a1", 40)), 40)
        self.assertEqual(self.trust("a1", ("a1", 0)), 0)
        self.assertEqual(self.trust("a1", ("a1", 100)), 100)

    def test_the_empty_monomial_and_zero(self):
        self.assertEqual(self.trust("1 + a1", ("a1", 3)), 100)
        self.assertEqual(self.trust("2"), 100)
        self.assertEqual(self.trust("0"), 0)


class There(Case):

    def there(self, text, *true, false=()):
        return valued(read_poly(text), "there", [(t, True) for t in true] + [(t, False) for t in false])

    def test_whether_some_term_has_only_true_ones(self):
        self.assertIs(self.there("a1*b1 + c1", "a1", "b1", false=("c1",)), True)
        self.assertIs(self.there("a1*b1 + c1", "c1", false=("a1", "b1")), True)
        self.assertIs(self.there("a1*b1 + c1", "a1", false=("b1", "c1")), False)
        self.assertIs(self.there("5*a1^4", "a1"), True)
        self.assertIs(self.there("5*a1^4", false=("a1",)), False)

    def test_the_empty_monomial_and_zero(self):
        self.assertIs(self.there("1"), True)
        self.assertIs(self.there("1 + a1", false=("a1",)), True)
        self.assertIs(self.there("0"), False)
        self.assertIs(self.there("0", "a1"), False)


class Seen(Case):

    def seen(self, text, *pairs):
        return valued(read_poly(text), "seen", pairs)

    def test_who_stands_in_all_values_of_some_term(self):
        pairs = (("a1", ("ann", "bob")), ("b1", ("bob", "eve")), ("c1", ("eve",)), ALL)
        self.assertEqual(self.seen("a1", *pairs), ("ann", "bob"))
        self.assertEqual(self.seen("a1*b1", *pairs), ("bob",))
        self.assertEqual(self.seen("3*a1^2*b1 + c1", *pairs), ("bob", "eve"))
        self.assertEqual(self.seen("b1 + c1", *pairs), ("bob", "eve"))
        self.assertEqual(self.seen("c1 + d1", ("d1", ("ann",)), *pairs), ("ann", "eve"))
        self.assertEqual(self.seen("a1*c1", *pairs), ())

    def test_the_empty_monomial_and_zero(self):
        self.assertEqual(self.seen("1", ALL), PERSONS)
        self.assertEqual(self.seen("4 + a1", ("a1", ()), ALL), PERSONS)
        self.assertEqual(self.seen("0", ALL), ())
        self.assertEqual(self.seen("1", ("", ())), ())

    def test_the_pair_of_all_persons_stands_anywhere(self):
        self.assertEqual(self.seen("a1", ("a1", ("eve",)), ALL), ("eve",))
        self.assertEqual(self.seen("a1", ALL, ("a1", ("eve",))), ("eve",))

    def test_without_the_pair_of_all_persons(self):
        for text in ("0", "1", "a1", "a1*b1"):
            self.raises(NothingThere, "", self.seen, text)
            self.raises(NothingThere, "", self.seen, text, ("b1", ("ann",)))
        self.raises(NothingThere, "", self.seen, "a1", ("a1", ("ann",)))


class Given(Case):

    def test_the_first_token_that_given_lacks(self):
        values = {"count": 2, "cost": None, "trust": 5, "there": False, "seen": ("ann",)}
        p = read_poly("a10*c1 + a2 + b1")
        for measure in MEASURES:
            def given(*tokens):
                return [(token, values[measure]) for token in tokens] + [ALL]
            self.raises(NothingThere, "a10", valued, p, measure, [ALL])
            self.raises(NothingThere, "a10", valued, p, measure, given("c1", "b1", "a2"))
            self.raises(NothingThere, "a2", valued, p, measure, given("a10", "a1"))
            self.raises(NothingThere, "b1", valued, p, measure, given("a10", "c1", "a2"))
            self.raises(NothingThere, "c1", valued, p, measure, given("a10", "a2", "b1"))
            self.assertEqual(valued(p, measure, given("c1", "a2", "b1", "a10", "z1")),
                             valued(p, measure, given("a10", "a2", "b1", "c1")))

    def test_a_lacking_token_is_told_ahead_of_too_many_figures(self):
        p = read_poly("a1^9999 + b1")
        self.raises(NothingThere, "b1", valued, p, "count", [("a1", 10)])
        self.raises(TooMany, "figures", valued, p, "count", [("a1", 10), ("b1", 1)])

    def test_the_pair_of_persons_is_passed_over_but_for_seen(self):
        for measure, value in (("count", 2), ("cost", 2), ("trust", 2), ("there", True)):
            for other in (PERSONS, (), None, 0, "word"):
                given = [("", other), ("a1", value)]
                self.assertEqual(valued(of_token("a1"), measure, given), value)
                self.assertEqual(valued(ONE, measure, given), measured_one(measure, PERSONS))
                self.assertEqual(valued(ZERO, measure, given), measured_zero(measure, PERSONS))

    def test_400_terms_answer(self):
        tokens = named("a", 400)
        given = [(token, 3) for token in tokens]
        self.assertEqual(valued(sum_of(tokens), "count", given), 1200)
        self.assertEqual(valued(product_of(tokens), "cost", given), 1200)


class OwnSumsAndProducts(Case):

    def test_of_count(self):
        self.assertEqual(measured_plus("count", 3, 4), 7)
        self.assertEqual(measured_times("count", 3, 4), 12)
        self.assertEqual(measured_times("count", 0, 4), 0)
        self.assertEqual(measured_plus("count", MOST, 1), 10 ** 4000)
        self.assertEqual(measured_times("count", MOST, MOST), MOST * MOST)

    def test_of_cost(self):
        self.assertEqual(measured_plus("cost", 3, 4), 3)
        self.assertEqual(measured_plus("cost", 4, 3), 3)
        self.assertEqual(measured_plus("cost", None, 0), 0)
        self.assertEqual(measured_plus("cost", 0, None), 0)
        self.assertIsNone(measured_plus("cost", None, None))
        self.assertEqual(measured_times("cost", 3, 4), 7)
        self.assertIsNone(measured_times("cost", None, 0))
        self.assertIsNone(measured_times("cost", 0, None))
        self.assertIsNone(measured_times("cost", None, None))

    def test_of_trust(self):
        self.assertEqual(measured_plus("trust", 30, 40), 40)
        self.assertEqual(measured_times("trust", 30, 40), 30)

    def test_of_there(self):
        for a in (True, False):
            for b in (True, False):
                self.assertIs(measured_plus("there", a, b), a or b)
                self.assertIs(measured_times("there", a, b), a and b)

    def test_of_seen(self):
        self.assertEqual(measured_plus("seen", ("bob", "eve"), ("ann", "eve")), ("ann", "bob", "eve"))
        self.assertEqual(measured_times("seen", ("bob", "eve"), ("ann", "eve")), ("eve",))
        self.assertEqual(measured_times("seen", ("bob",), ("ann",)), ())
        self.assertEqual(measured_plus("seen", (), ()), ())

    def test_zero_and_one(self):
        for persons in ((), PERSONS, None):
            self.assertEqual(measured_zero("count", persons), 0)
            self.assertEqual(measured_one("count", persons), 1)
            self.assertIsNone(measured_zero("cost", persons))
            self.assertEqual(measured_one("cost", persons), 0)
            self.assertEqual(measured_zero("trust", persons), 0)
            self.assertEqual(measured_one("trust", persons), 100)
            self.assertIs(measured_zero("there", persons), False)
            self.assertIs(measured_one("there", persons), True)
        self.assertEqual(measured_zero("seen", PERSONS), ())
        self.assertEqual(measured_one("seen", PERSONS), PERSONS)
        self.assertEqual(measured_one("seen", ()), ())

    def test_valuing_is_a_homomorphism(self):
        source = random.Random(7)
        tokens = ("a1", "a10", "a2", "b1")
        values = {
            "count": lambda: source.randrange(4),
            "cost": lambda: source.choice((None, 0, 1, 2, 9)),
            "trust": lambda: source.randrange(101),
            "there": lambda: source.choice((True, False)),
            "seen": lambda: tuple(sorted(source.sample(PERSONS, source.randrange(4)))),
        }
        for _ in range(100):
            p, q = any_poly(source, tokens), any_poly(source, tokens)
            for measure in MEASURES:
                given = [(token, values[measure]()) for token in tokens] + [ALL]
                one, other = valued(p, measure, given), valued(q, measure, given)
                self.assertEqual(valued(plus(p, q), measure, given), measured_plus(measure, one, other))
                self.assertEqual(valued(times(p, q), measure, given), measured_times(measure, one, other))
                self.assertEqual(valued(ZERO, measure, given), measured_zero(measure, PERSONS))
                self.assertEqual(valued(ONE, measure, given), measured_one(measure, PERSONS))
                for token, value in given[:-1]:
                    self.assertEqual(valued(of_token(token), measure, given), value)


if __name__ == "__main__":
    unittest.main()
