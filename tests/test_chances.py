"""[8]: chances."""

import itertools
import math
import random
import unittest
from fractions import Fraction

from making import Case, any_poly, named, powers, product_of, sum_of
from ledgertrace.chances import chance
from ledgertrace.errors import NothingThere, TooMany
from ledgertrace.polys import ONE, ZERO, of_token, read_poly


def even(tokens):
    return tuple((token, (1, 2)) for token in tokens)


def counted_chance(p, given):
    """The chance, by looking at all sets of tokens."""
    chances, total = dict(given), Fraction(0)
    for held in itertools.product((True, False), repeat=len(chances)):
        there = dict(zip(chances, held))
        if any(all(there[token] for token, _ in monomial) for monomial, _ in p):
            part = Fraction(1)
            for token, (n, d) in given:
                part *= Fraction(n, d) if there[token] else 1 - Fraction(n, d)
            total += part
    return total.numerator, total.denominator


class Chances(Case):

    def test_single_tokens_sums_and_products(self):
        self.assertEqual(chance(of_token("a1"), (("a1", (1, 3)),)), (1, 3))
        given = (("a1", (1, 2)), ("b1", (1, 3)))
        self.assertEqual(chance(read_poly("a1*b1"), given), (1, 6))
        self.assertEqual(chance(read_poly("a1 + b1"), given), (2, 3))
        self.assertEqual(chance(read_poly("a1 + a1*b1"), given), (1, 2))
        self.assertEqual(chance(read_poly("a1*b1 + a1*c1"), given + (("c1", (1, 5)),)), (7, 30))

    def test_coefficients_and_exponents_do_not_count(self):
        self.assertEqual(chance(read_poly("9*a1^7"), (("a1", (2, 5)),)), (2, 5))
        self.assertEqual(chance(powers("a1", 400)[1:], (("a1", (2, 5)),)), (2, 5))

    def test_the_ends(self):
        self.assertEqual(chance(ZERO, ()), (0, 1))
        self.assertEqual(chance(ONE, ()), (1, 1))
        self.assertEqual(chance(ZERO, (("a1", (3, 7)),)), (0, 1))
        self.assertEqual(chance(read_poly("1 + a1"), (("a1", (3, 7)),)), (1, 1))
        self.assertEqual(chance(read_poly("5"), (("a1", (0, 7)),)), (1, 1))

    def test_0_of_d_and_d_of_d(self):
        self.assertEqual(chance(of_token("a1"), (("a1", (0, 7)),)), (0, 1))
        self.assertEqual(chance(of_token("a1"), (("a1", (7, 7)),)), (1, 1))
        given = (("a1", (0, 9)), ("b1", (4, 4)), ("c1", (1, 3)))
        self.assertEqual(chance(read_poly("a1*b1"), given), (0, 1))
        self.assertEqual(chance(read_poly("b1*c1"), given), (1, 3))
        self.assertEqual(chance(read_poly("a1 + c1"), given), (1, 3))
        self.assertEqual(chance(read_poly("b1 + c1"), given), (1, 1))

    def test_least_terms(self):
        self.assertEqual(chance(of_token("a1"), (("a1", (10, 30)),)), (1, 3))
        self.assertEqual(chance(read_poly("a1*b1"), (("a1", (4, 6)), ("b1", (3, 8)))), (1, 4))
        self.assertEqual(chance(of_token("a1"), (("a1", (10 ** 300, 4 * 10 ** 300)),)), (1, 4))

    def test_it_is_the_chance_counted_over_all_sets(self):
        source = random.Random(8)
        tokens = ("a1", "a10", "a2", "b1")
        for _ in range(120):
            p = any_poly(source, tokens)
            given = []
            for token in tokens:
                d = source.randint(1, 6)
                given.append((token, (source.randint(0, d), d)))
            made = chance(p, given)
            self.assertEqual(made, counted_chance(p, given))
            self.assertEqual(math.gcd(*made), 1)

    def test_the_first_token_that_given_lacks(self):
        p = read_poly("a10*c1 + a2 + b1")
        self.raises(NothingThere, "a10", chance, p, ())
        self.raises(NothingThere, "a10", chance, p, even(("a1", "a2", "b1", "c1")))
        self.raises(NothingThere, "a2", chance, p, even(("a10", "c1")))
        self.raises(NothingThere, "c1", chance, p, even(("a10", "b1", "a2")))
        self.assertEqual(chance(p, even(("z1", "c1", "b1", "a2", "a10"))), (13, 16))

    def test_12_and_13_tokens(self):
        twelve, thirteen = named("a", 12), named("a", 13)
        self.assertEqual(chance(product_of(twelve), even(twelve)), (1, 4096))
        self.assertEqual(chance(sum_of(twelve), even(twelve)), (4095, 4096))
        self.assertEqual(chance(sum_of(twelve), even(named("a", 50))), (4095, 4096))
        self.raises(TooMany, "tokens", chance, product_of(thirteen), even(thirteen))
        self.raises(TooMany, "tokens", chance, sum_of(thirteen), even(thirteen))
        self.raises(TooMany, "tokens", chance, ONE + sum_of(thirteen), even(thirteen))

    def test_a_lacking_token_is_told_ahead_of_too_many(self):
        thirteen = named("a", 13)
        for token in thirteen:
            others = [other for other in thirteen if other != token]
            self.raises(NothingThere, token, chance, sum_of(thirteen), even(others))

    def test_400_terms_of_12_tokens(self):
        tokens = named("a", 12)
        terms = sorted((tuple((t, 1) for t in six), 1) for six in itertools.combinations(tokens, 6))[:400]
        given = tuple((token, (at + 1, at + 2)) for at, token in enumerate(tokens))
        made = chance(terms, given)
        self.assertEqual(math.gcd(*made), 1)
        self.assertTrue(0 < made[0] < made[1])
        self.assertEqual(made, counted_chance(terms, given))


if __name__ == "__main__":
    unittest.main()
