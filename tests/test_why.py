"""[12], [13]: witnesses and breakers."""

import itertools
import random
import unittest

from making import Case, any_poly, as_lists, named, powers, product_of, sum_of
from ledgertrace.errors import TooMany
from ledgertrace.measures import valued
from ledgertrace.polys import ONE, ZERO, of_token, plus, read_poly, replaced, times, tokens_of
from ledgertrace.why import breakers, needed, there_with, witnesses

TOKENS = ("a1", "a10", "a2", "b1", "c3")


def least(sets):
    """Those of the sets in which no other one lies, as [12] puts them."""
    sets = {frozenset(each) for each in sets}
    kept = [tuple(sorted(each)) for each in sets if not any(other < each for other in sets)]
    return tuple(sorted(kept, key=lambda each: (len(each), each)))


def all_sets(tokens):
    return [each for size in range(len(tokens) + 1) for each in itertools.combinations(tokens, size)]


def plain_witnesses(p):
    return least([token for token, _ in monomial] for monomial, _ in p)


def plain_breakers(p):
    """The least sets whose loss loses the row, by looking at all of them."""
    lost = [each for each in all_sets(tokens_of(p)) if not replaced(p, [(token, ZERO) for token in each])]
    return least(lost)


def pairs_of(many):
    """The product of so many sums of two tokens each, as 2 ** many monomials."""
    p = ONE
    for at in range(1, many + 1):
        p = times(p, sum_of((f"a{at}", f"b{at}")))
    return p


def sum_of_pairs(many):
    """The sum of so many products of two tokens each: it has 2 ** many breakers."""
    return tuple(sorted(product_of((f"a{at}", f"b{at}"))[0] for at in range(1, many + 1)))


class Witnesses(Case):

    def test_sums_and_products(self):
        self.assertEqual(witnesses(read_poly("a1")), (("a1",),))
        self.assertEqual(witnesses(read_poly("a1 + b1")), (("a1",), ("b1",)))
        self.assertEqual(witnesses(read_poly("a1*b1")), (("a1", "b1"),))
        self.assertEqual(witnesses(read_poly("a1*b1 + a1*c1 + b1*c1")), (("a1", "b1"), ("a1", "c1"), ("b1", "c1")))

    def test_zero_and_one(self):
        self.assertEqual(witnesses(ZERO), ())
        self.assertEqual(witnesses(ONE), ((),))

    def test_the_empty_monomial(self):
        self.assertEqual(witnesses(read_poly("1 + a1")), ((),))
        self.assertEqual(witnesses(read_poly("7 + a1*b1 + c1")), ((),))

    def test_of_which_no_other_one_is_a_part(self):
        self.assertEqual(witnesses(read_poly("a1*b1 + a1*b1*c1 + c1")), (("c1",), ("a1", "b1")))
        self.assertEqual(witnesses(read_poly("a1*b1*c1 + b1")), (("b1",),))
        self.assertEqual(witnesses(read_poly("a1*b1*c1*d1 + a1*d1 + b1*c1")), (("a1", "d1"), ("b1", "c1")))

    def test_coefficients_and_exponents_do_not_count(self):
        self.assertEqual(witnesses(read_poly("3*a1*b1 + 5*a1^2*b1 + 2*a1^3*b1^9")), (("a1", "b1"),))
        self.assertEqual(witnesses(powers("a1", 400)[1:]), (("a1",),))
        self.assertEqual(witnesses(read_poly("a1*b1 + a1^2")), (("a1",),))

    def test_ascending_by_size_then_as_tuples(self):
        p = read_poly("a1*b1*c1 + a2 + a3*b1 + b2*b3 + c2")
        self.assertEqual(witnesses(p), (("a2",), ("c2",), ("a3", "b1"), ("b2", "b3"), ("a1", "b1", "c1")))

    def test_tokens_of_which_one_is_the_beginning_of_another(self):
        self.assertEqual(witnesses(read_poly("a1 + a10 + a2")), (("a1",), ("a10",), ("a2",)))
        self.assertEqual(witnesses(read_poly("a1*a2 + a10*a2")), (("a1", "a2"), ("a10", "a2")))
        self.assertEqual(witnesses(read_poly("a1*a100 + a10")), (("a10",), ("a1", "a100")))
        self.assertEqual(witnesses(read_poly("a1 + a10*a100")), (("a1",), ("a10", "a100")))

    def test_any_polynomial(self):
        source = random.Random(12)
        for _ in range(300):
            p = any_poly(source, TOKENS, 6)
            self.assertEqual(witnesses(p), plain_witnesses(p))
            self.assertEqual(witnesses(as_lists(p)), plain_witnesses(p))

    def test_400_terms(self):
        tokens = named("a", 400)
        self.assertEqual(witnesses(sum_of(tokens)), tuple((token,) for token in tokens))
        p = tuple(sorted(((("a1", 1), (token, 1)), 1) for token in named("b", 400)))
        self.assertEqual(witnesses(p), tuple(("a1", token) for token in named("b", 400)))


class There(Case):

    p = read_poly("a1*b1 + a10*c1")

    def test_within_tokens(self):
        self.assertIs(there_with(self.p, ("a1", "b1")), True)
        self.assertIs(there_with(self.p, ("b1", "a1", "c1")), True)
        self.assertIs(there_with(self.p, ("c1", "a10")), True)
        self.assertIs(there_with(self.p, ("a1", "a10")), False)
        self.assertIs(there_with(self.p, ("a1", "c1")), False)
        self.assertIs(there_with(self.p, ()), False)
        self.assertIs(there_with(as_lists(self.p), ["a1", "b1"]), True)

    def test_tokens_that_p_lacks(self):
        self.assertIs(there_with(self.p, ("z1", "a1", "b1", "a100")), True)
        self.assertIs(there_with(self.p, ("z1", "a1", "b10", "a100", "c1")), False)

    def test_tokens_twice(self):
        self.assertIs(there_with(self.p, ("a1", "a1")), False)
        self.assertIs(there_with(self.p, ["b1", "a1", "b1"]), True)

    def test_zero_and_the_empty_monomial(self):
        self.assertIs(there_with(ZERO, ()), False)
        self.assertIs(there_with(ZERO, ("a1",)), False)
        self.assertIs(there_with(ONE, ()), True)
        self.assertIs(there_with(read_poly("2 + a1"), ()), True)
        self.assertIs(there_with(read_poly("2 + a1"), ("z1",)), True)

    def test_it_is_the_measure(self):
        source = random.Random(120)
        for _ in range(200):
            p = any_poly(source, TOKENS, 5)
            held = [token for token in TOKENS if source.random() < 0.5]
            given = [(token, token in held) for token in TOKENS]
            self.assertIs(there_with(p, held), valued(p, "there", given))
            self.assertEqual(there_with(p, held), any(set(each) <= set(held) for each in witnesses(p)))


class Needed(Case):

    def test_tokens_in_every_least_witness(self):
        self.assertEqual(needed(read_poly("a1")), ("a1",))
        self.assertEqual(needed(read_poly("a1*b1")), ("a1", "b1"))
        self.assertEqual(needed(read_poly("a1*b1 + a1*c1")), ("a1",))
        self.assertEqual(needed(read_poly("a1*b1 + c1")), ())
        self.assertEqual(needed(read_poly("a1*b1*c1 + b1")), ("b1",))
        self.assertEqual(needed(read_poly("a1*a10*a2 + a10*a2*b1")), ("a10", "a2"))

    def test_only_least_witnesses_count(self):
        self.assertEqual(needed(read_poly("a1*b1 + a1*b1*c1")), ("a1", "b1"))

    def test_zero_and_the_empty_monomial(self):
        self.assertEqual(needed(ZERO), ())
        self.assertEqual(needed(ONE), ())
        self.assertEqual(needed(read_poly("1 + a1")), ())

    def test_any_polynomial(self):
        source = random.Random(13)
        for _ in range(200):
            p = any_poly(source, TOKENS, 4)
            sets = plain_witnesses(p)
            common = set(TOKENS).intersection(*sets) if sets else set()
            self.assertEqual(needed(p), tuple(sorted(common)))
            self.assertEqual(needed(as_lists(p)), needed(p))
            if p:
                self.assertEqual([(token,) for token in needed(p)], [each for each in breakers(p) if len(each) == 1])


class Breakers(Case):

    def test_sums_and_products(self):
        self.assertEqual(breakers(read_poly("a1")), (("a1",),))
        self.assertEqual(breakers(read_poly("a1 + b1")), (("a1", "b1"),))
        self.assertEqual(breakers(read_poly("a1*b1")), (("a1",), ("b1",)))
        self.assertEqual(breakers(read_poly("a1*b1 + a1*c1")), (("a1",), ("b1", "c1")))
        self.assertEqual(breakers(read_poly("a1*b1 + a1*c1 + b1*c1")), (("a1", "b1"), ("a1", "c1"), ("b1", "c1")))
        self.assertEqual(breakers(read_poly("a1 + a10*a2 + b1*b2")), (
            ("a1", "a10", "b1"), ("a1", "a10", "b2"), ("a1", "a2", "b1"), ("a1", "a2", "b2")))

    def test_zero_and_the_empty_monomial(self):
        self.assertEqual(breakers(ZERO), ((),))
        self.assertEqual(breakers(ONE), ())
        self.assertEqual(breakers(read_poly("3 + a1 + b1*c1")), ())

    def test_any_polynomial(self):
        source = random.Random(131)
        for _ in range(300):
            p = any_poly(source, TOKENS, 6)
            made = breakers(p)
            self.assertEqual(made, plain_breakers(p))
            self.assertEqual(breakers(as_lists(p)), made)

    def test_losing_the_row_is_holding_a_breaker(self):
        source = random.Random(132)
        for _ in range(60):
            p = any_poly(source, TOKENS, 5)
            sets = breakers(p)
            for gone in all_sets(TOKENS):
                left = [token for token in TOKENS if token not in gone]
                self.assertEqual(not there_with(p, left), any(set(each) <= set(gone) for each in sets))

    def test_breakers_of_breakers_are_the_witnesses(self):
        source = random.Random(133)
        for _ in range(100):
            p = any_poly(source, TOKENS, 5)
            total = ZERO
            for each in breakers(p):
                product = ONE
                for token in each:
                    product = times(product, of_token(token))
                total = plus(total, product)
            self.assertEqual(breakers(total), witnesses(p))

    def test_400_and_401_sets(self):
        tokens = named("a", 401)
        self.assertEqual(breakers(product_of(tokens[:400])), tuple((token,) for token in tokens[:400]))
        self.raises(TooMany, "sets", breakers, product_of(tokens))
        grid = sum_of_products(20, 20)
        self.assertEqual(len(breakers(grid)), 400)
        self.raises(TooMany, "sets", breakers, sum_of_products(20, 21))
        self.raises(TooMany, "sets", breakers, sum_of_products(401, 1))
        self.assertEqual(len(breakers(sum_of_pairs(8))), 256)
        self.raises(TooMany, "sets", breakers, sum_of_pairs(9))
        self.raises(TooMany, "sets", breakers, sum_of_pairs(200))
        self.assertEqual(breakers(pairs_of(8)), tuple((f"a{at}", f"b{at}") for at in range(1, 9)))

    def test_the_first_witnesses_alone(self):
        # Nine pairs without a common token have 512 breakers; what brings them down to ten
        # stands behind them in the one sequence, and among them in the other one.
        behind, among = pairs_and_all_of("c", "a"), pairs_and_all_of("a", "c")
        self.assertEqual(witnesses(behind)[:9], tuple((f"a{at}", f"c{at}") for at in range(1, 10)))
        self.raises(TooMany, "sets", breakers, behind)
        every = tuple(f"a{at}" for at in range(1, 10))
        but_one = [tuple(token for token in every if token != each) + (f"c{each[1:]}",) for each in every]
        self.assertEqual(breakers(among), tuple(sorted(but_one + [every])))
        self.assertEqual(breakers(behind[9:]), tuple(sorted(
            tuple(f"c{at}" for at in range(1, 10) if at != each) for each in range(1, 10))))

    def test_the_very_last_witness_ahead_of_the_limit(self):
        self.assertEqual(len(breakers(sum_of_pairs(8) + product_of(("c1",)))), 256)
        self.assertEqual(breakers(sum_of_pairs(8))[0], tuple(f"a{at}" for at in range(1, 9)))
        self.raises(TooMany, "sets", breakers, sum_of_pairs(8) + product_of(("c1", "c2")))

    def test_any_larger_polynomial(self):
        source = random.Random(134)
        tokens = named("a", 15) + named("b", 15)
        told = {True: 0, False: 0}
        for _ in range(60):
            many, size = source.randint(3, 12), source.randint(2, 4)
            p = tuple(sorted({product_of(source.sample(tokens, size))[0] for _ in range(many)}))
            steps = plain_steps(p)
            fits = max(len(each) for each in steps) <= 400
            told[fits] += 1
            if fits:
                self.assertEqual(breakers(p), steps[-1])
                self.assertEqual(breakers(as_lists(p)), steps[-1])
            else:
                self.raises(TooMany, "sets", breakers, p)
        self.assertGreater(min(told.values()), 3)

    def test_one_token_in_all_witnesses_of_many(self):
        p = tuple(sorted(((("a1", 1), (token, 1)), 1) for token in named("b", 400)))
        self.assertEqual(breakers(p), (("a1",), named("b", 400)))
        self.assertEqual(breakers(sum_of(named("a", 400))), (named("a", 400),))


def sum_of_products(many, other):
    """A sum of two products, of so many tokens each: it has many * other breakers."""
    return product_of(named("a", many)) + product_of(named("b", other))


def plain_steps(p):
    """The least sets that meet the first witnesses, for each number of these until they are too many."""
    found, steps = [frozenset()], [((),)]
    for witness in plain_witnesses(p):
        if len(found) > 400:
            break
        found = {each | {token} for each in found for token in witness}
        found = {each for each in found if not any(other < each for other in found)}
        steps.append(least(found))
    return steps


def pairs_and_all_of(letter, other):
    """Nine pairs of a token of each letter, and all pairs of those of the first one."""
    pairs = [(f"{letter}{at}", f"{other}{at}") for at in range(1, 10)]
    pairs += [(f"{letter}{one}", f"{letter}{two}") for one, two in itertools.combinations(range(1, 10), 2)]
    return tuple(sorted(product_of(pair)[0] for pair in pairs))


if __name__ == "__main__":
    unittest.main()
