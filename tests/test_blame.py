"""[14]: contingencies and blame."""

import itertools
import random
import unittest

from making import Case, any_poly, as_lists, named, product_of, sum_of
from ledgertrace.blame import blame, blames, contingency
from ledgertrace.errors import TooMany
from ledgertrace.polys import ONE, ZERO, read_poly, tokens_of
from ledgertrace.why import there_with

TOKENS = ("a1", "a10", "a2", "b1", "c3")


def plain_contingency(p, token):
    """The least set, then the first one as a tuple, by looking at all of them."""
    others = [other for other in TOKENS if other != token]
    for size in range(len(others) + 1):
        for gone in itertools.combinations(others, size):
            left = [other for other in others if other not in gone]
            if there_with(p, left + [token]) and not there_with(p, left):
                return gone
    return None


class Contingencies(Case):

    def test_a_token_that_alone_breaks_the_row(self):
        self.assertEqual(contingency(read_poly("a1"), "a1"), ())
        self.assertEqual(contingency(read_poly("a1*b1"), "a1"), ())
        self.assertEqual(contingency(read_poly("a1*b1 + a1*c1"), "a1"), ())
        self.assertEqual(blame(read_poly("a1*b1 + a1*c1"), "a1"), (1, 1))

    def test_of_a_sum(self):
        p = read_poly("a1 + b1 + c1")
        self.assertEqual(contingency(p, "a1"), ("b1", "c1"))
        self.assertEqual(contingency(p, "b1"), ("a1", "c1"))
        self.assertEqual(blame(p, "c1"), (1, 3))

    def test_a_token_that_p_lacks(self):
        for p in (ZERO, ONE, read_poly("a1*b1 + c1"), read_poly("a10 + a100"), read_poly("2 + a2")):
            for token in ("z1", "a11", "a1000"):
                self.assertIsNone(contingency(p, token))
                self.assertEqual(blame(p, token), (0, 1))

    def test_zero_and_the_empty_monomial(self):
        for p in (ZERO, ONE, read_poly("3 + a1"), read_poly("1 + a1*b1")):
            self.assertIsNone(contingency(p, "a1"))
            self.assertEqual(blame(p, "a1"), (0, 1))

    def test_a_token_in_no_least_witness(self):
        p = read_poly("a1*b1 + a1*b1*c1")
        self.assertIsNone(contingency(p, "c1"))
        self.assertEqual(blame(p, "c1"), (0, 1))

    def test_the_least_as_a_rising_tuple_of_several_of_one_size(self):
        p = read_poly("a1*a2 + b1*b2 + c1")
        self.assertEqual(contingency(p, "b1"), ("a1", "c1"))
        self.assertEqual(contingency(p, "c1"), ("a1", "b1"))
        p = read_poly("a10*a2 + b1")
        self.assertEqual(contingency(p, "b1"), ("a10",))
        p = read_poly("a1*a2 + a1*b2 + c1*d1")
        self.assertEqual(contingency(p, "c1"), ("a1",))
        self.assertEqual(contingency(p, "b2"), ("a2", "c1"))

    def test_the_least_size_ahead_of_the_least_tuple(self):
        p = read_poly("a1*z1 + b1*z1 + m1")
        self.assertEqual(contingency(p, "m1"), ("z1",))
        self.assertEqual(blame(p, "m1"), (1, 2))
        self.assertEqual(contingency(p, "a1"), ("b1", "m1"))

    def test_any_polynomial(self):
        source = random.Random(14)
        for _ in range(250):
            p = any_poly(source, TOKENS, 6)
            for token in TOKENS:
                made = contingency(p, token)
                self.assertEqual(made, plain_contingency(p, token))
                self.assertEqual(contingency(as_lists(p), token), made)
                self.assertEqual(blame(p, token), (0, 1) if made is None else (1, 1 + len(made)))


class Blames(Case):

    def test_the_greatest_first(self):
        self.assertEqual(blames(read_poly("a1*b1 + a1*b1*d1 + a1*c1")), (
            ("a1", (1, 1)), ("b1", (1, 2)), ("c1", (1, 2)), ("d1", (0, 1))))
        self.assertEqual(blames(read_poly("a1*a2*z1 + b1*z1 + c1*c2*z1")), (
            ("z1", (1, 1)), ("a1", (1, 3)), ("a2", (1, 3)), ("b1", (1, 3)), ("c1", (1, 3)), ("c2", (1, 3))))

    def test_equal_blames_by_tokens_as_strings(self):
        self.assertEqual(blames(read_poly("a1 + a10 + a2")), (("a1", (1, 3)), ("a10", (1, 3)), ("a2", (1, 3))))
        alone = tuple((token, (1, 1)) for token in ("a1", "a10", "a2", "b1"))
        self.assertEqual(blames(read_poly("a1*a10*a2*b1")), alone)

    def test_none(self):
        self.assertEqual(blames(ZERO), ())
        self.assertEqual(blames(ONE), ())
        self.assertEqual(blames(read_poly("1 + a1 + b1*c1")), (("a1", (0, 1)), ("b1", (0, 1)), ("c1", (0, 1))))

    def test_any_polynomial(self):
        source = random.Random(141)
        for _ in range(150):
            p = any_poly(source, TOKENS, 6)
            pairs = [(token, blame(p, token)) for token in tokens_of(p)]
            pairs.sort(key=lambda pair: (-pair[1][0] / pair[1][1], pair[0]))
            self.assertEqual(blames(p), tuple(pairs))
            self.assertEqual(blames(as_lists(p)), tuple(pairs))


class TooManySets(Case):

    def test_400_and_401_sets(self):
        tokens = named("a", 401)
        full = product_of(tokens[:400])
        self.assertEqual(contingency(full, "a7"), ())
        self.assertEqual(blame(full, "z1"), (0, 1))
        self.assertEqual(blames(full), tuple((token, (1, 1)) for token in tokens[:400]))
        for token in ("a7", "z1"):
            self.raises(TooMany, "sets", contingency, product_of(tokens), token)
            self.raises(TooMany, "sets", blame, product_of(tokens), token)
        self.raises(TooMany, "sets", blames, product_of(tokens))

    def test_the_first_witnesses_alone(self):
        p = tuple(sorted(product_of((f"a{at}", f"b{at}"))[0] for at in range(1, 10))) + product_of(("c1",))
        self.raises(TooMany, "sets", contingency, p[:-1], "a1")
        for token in ("a1", "c1", "z1"):
            self.raises(TooMany, "sets", contingency, p, token)
            self.raises(TooMany, "sets", blame, p, token)
        self.raises(TooMany, "sets", blames, p)
        self.assertEqual(blame(p[1:], "c1"), (1, 9))
        self.assertEqual(contingency(p[1:], "c1"), tuple(f"a{at}" for at in range(2, 10)))

    def test_many_tokens(self):
        tokens = named("a", 400)
        self.assertEqual(blame(sum_of(tokens), "a1"), (1, 400))
        self.assertEqual(contingency(sum_of(tokens), "a1"), tokens[1:])


if __name__ == "__main__":
    unittest.main()
