"""[3], [4], [5]: polynomials, their limits, replacing, and their text."""

import random
import unittest

from making import GREATEST, Case, any_poly, named, plain_product, plain_sum, powers, product_of, sum_of
from ledgertrace.errors import BadValue, TooMany
from ledgertrace.polys import (
    ONE, ZERO, degree, of_token, plus, poly_text, read_poly, replaced, times, tokens_of)

A = ((("a1", 1),), 1)
B = ((("b1", 1),), 1)


def constant(number):
    return (((), number),)


def power(token, exponent, coefficient=1):
    return ((((token, exponent),), coefficient),)


class Making(Case):

    def test_zero_one_and_a_token(self):
        self.assertEqual(ZERO, ())
        self.assertEqual(ONE, (((), 1),))
        self.assertEqual(of_token("a1"), (((("a1", 1),), 1),))
        self.assertEqual(of_token("z9999"), (((("z9999", 1),), 1),))

    def test_sums(self):
        self.assertEqual(plus(ZERO, ZERO), ZERO)
        self.assertEqual(plus(ONE, ONE), constant(2))
        self.assertEqual(plus((B,), (A,)), (A, B))
        self.assertEqual(plus((A,), (A,)), power("a1", 1, 2))
        self.assertEqual(plus(ONE, (A,)), (((), 1), A))
        self.assertEqual(plus(power("a1", 2), (A,)), (A, ((("a1", 2),), 1)))
        self.assertEqual(plus(ZERO, (A, B)), (A, B))

    def test_products(self):
        self.assertEqual(times((A,), (B,)), (((("a1", 1), ("b1", 1)), 1),))
        self.assertEqual(times((B,), (A,)), (((("a1", 1), ("b1", 1)), 1),))
        self.assertEqual(times((A,), (A,)), power("a1", 2))
        self.assertEqual(times((A, B), ZERO), ZERO)
        self.assertEqual(times(ZERO, (A, B)), ZERO)
        self.assertEqual(times((A, B), ONE), (A, B))
        self.assertEqual(times(constant(2), constant(3)), constant(6))
        self.assertEqual(
            times((A, B), (A, B)),
            (((("a1", 1), ("b1", 1)), 2), ((("a1", 2),), 1), ((("b1", 2),), 1)))

    def test_tokens_rise_as_strings(self):
        ten, two = of_token("a10"), of_token("a2")
        self.assertEqual(plus(two, plus(ten, (A,))), (A, ten[0], two[0]))
        self.assertEqual(times(two, times(ten, (A,))), (((("a1", 1), ("a10", 1), ("a2", 1)), 1),))
        self.assertEqual(tokens_of(plus(two, plus(ten, (A,)))), ("a1", "a10", "a2"))

    def test_monomials_rise_as_tuples(self):
        p = plus(power("a1", 10), plus(times((A,), (B,)), plus(power("a1", 2), plus((B,), plus((A,), ONE)))))
        self.assertEqual([monomial for monomial, _ in p], [
            (), (("a1", 1),), (("a1", 1), ("b1", 1)), (("a1", 2),), (("a1", 10),), (("b1", 1),)])

    def test_tokens_of(self):
        self.assertEqual(tokens_of(ZERO), ())
        self.assertEqual(tokens_of(ONE), ())
        self.assertEqual(tokens_of((((("b1", 1), ("c1", 2)), 1), ((("b1", 2),), 1))), ("b1", "c1"))
        self.assertEqual(tokens_of((((), 4), ((("a1", 1), ("z1", 1)), 1), B)), ("a1", "b1", "z1"))

    def test_degree(self):
        self.assertEqual(degree(ZERO), 0)
        self.assertEqual(degree(ONE), 0)
        self.assertEqual(degree(power("a1", 3, 9)), 3)
        self.assertEqual(degree((((("a1", 2), ("b1", 2)), 1), ((("a1", 3),), 7))), 4)
        self.assertEqual(degree((((("a1", GREATEST), ("b1", GREATEST)), 1),)), 2 * GREATEST)

    def test_sums_and_products_are_those_made_in_another_way(self):
        source = random.Random(4)
        for _ in range(150):
            p, q = any_poly(source), any_poly(source)
            self.assertEqual(plus(p, q), plain_sum(p, q))
            self.assertEqual(times(p, q), plain_product(p, q))


class Limits(Case):

    def test_sums_of_400_and_of_401_terms(self):
        full = plus(sum_of(named("a", 200)), sum_of(named("b", 200)))
        self.assertEqual(len(full), 400)
        self.assertEqual(len(plus(full, full)), 400)
        self.raises(TooMany, "terms", plus, full, ONE)
        self.raises(TooMany, "terms", plus, of_token("c1"), full)

    def test_products_of_400_and_of_401_terms(self):
        self.assertEqual(len(times(powers("a1", 200), powers("a1", 201))), 400)
        self.raises(TooMany, "terms", times, powers("a1", 201), powers("a1", 201))
        self.assertEqual(len(times(sum_of(named("a", 20)), sum_of(named("b", 20)))), 400)
        self.raises(TooMany, "terms", times, sum_of(named("a", 20)), sum_of(named("b", 21)))
        self.raises(TooMany, "terms", times, sum_of(named("a", 400)), sum_of(named("b", 400)))
        self.assertEqual(times(sum_of(named("a", 400)), ZERO), ZERO)

    def test_coefficients_of_100_and_of_101_figures(self):
        self.assertEqual(plus(constant(GREATEST - 1), ONE), constant(GREATEST))
        self.raises(TooMany, "figures", plus, constant(GREATEST), ONE)
        self.assertEqual(times(constant(10 ** 50), constant(10 ** 49)), constant(10 ** 99))
        self.raises(TooMany, "figures", times, constant(10 ** 50), constant(10 ** 50))
        self.assertEqual(times(constant(GREATEST), (A,)), power("a1", 1, GREATEST))
        self.raises(TooMany, "figures", times, constant(GREATEST), constant(GREATEST))

    def test_exponents_of_100_and_of_101_figures(self):
        self.assertEqual(times(power("a1", GREATEST - 1), (A,)), power("a1", GREATEST))
        self.raises(TooMany, "figures", times, power("a1", GREATEST), (A,))
        self.raises(TooMany, "figures", times, power("a1", GREATEST), power("a1", GREATEST))
        self.assertEqual(plus(power("a1", GREATEST), power("a1", GREATEST)), power("a1", GREATEST, 2))

    def test_the_sum_of_exponents_is_not_limited(self):
        self.assertEqual(
            times(power("a1", GREATEST), power("b1", GREATEST)),
            (((("a1", GREATEST), ("b1", GREATEST)), 1),))

    def test_terms_are_looked_at_ahead_of_figures(self):
        heavy = constant(GREATEST) + sum_of(named("a", 399))
        self.raises(TooMany, "figures", plus, heavy, ONE)
        self.raises(TooMany, "terms", plus, heavy, ONE + (B,))
        self.raises(TooMany, "terms", times, powers("a1", 201, GREATEST), powers("a1", 201))
        self.raises(TooMany, "figures", times, powers("a1", 200, GREATEST), powers("a1", 201))
        high = plus(power("a1", GREATEST), sum_of(named("b", 200)))
        self.raises(TooMany, "figures", times, high, (A,))
        self.raises(TooMany, "terms", times, high, plus((A,), sum_of(named("c", 2))))


class Replacing(Case):

    def test_no_pairs_and_no_terms(self):
        self.assertEqual(replaced((A, B), ()), (A, B))
        self.assertEqual(replaced(ZERO, (("a1", ONE),)), ZERO)
        self.assertEqual(replaced(constant(3), (("a1", ZERO),)), constant(3))
        self.assertEqual(replaced((A,), (("b1", ZERO), ("a10", ONE))), (A,))

    def test_by_zero(self):
        self.assertEqual(replaced((A, B), (("a1", ZERO),)), (B,))
        self.assertEqual(replaced((A,), (("a1", ZERO),)), ZERO)
        self.assertEqual(replaced(times((A,), plus((B,), ONE)), (("b1", ZERO),)), (A,))

    def test_by_one(self):
        self.assertEqual(replaced((A, B), (("a1", ONE),)), (((), 1), B))
        self.assertEqual(replaced(power("a1", 1000, 7), (("a1", ONE),)), constant(7))
        self.assertEqual(replaced((A, B), (("a1", ONE), ("b1", ONE))), constant(2))

    def test_by_tokens_of_the_polynomial_itself_all_at_once(self):
        p = (((("a1", 2), ("b1", 1)), 5),)
        swapped = (((("a1", 1), ("b1", 2)), 5),)
        self.assertEqual(replaced(p, (("a1", (B,)), ("b1", (A,)))), swapped)
        self.assertEqual(replaced(p, (("b1", (A,)), ("a1", (B,)))), swapped)
        self.assertEqual(replaced(p, (("a1", (B,)),)), power("b1", 3, 5))
        self.assertEqual(replaced((A, B), (("a1", (B,)), ("b1", ZERO))), (B,))
        self.assertEqual(replaced((A,), (("a1", (A, B)),)), (A, B))

    def test_by_sums_and_powers_of_them(self):
        self.assertEqual(replaced(power("a1", 2, 3), (("a1", (A, B)),)), (
            ((("a1", 1), ("b1", 1)), 6), ((("a1", 2),), 3), ((("b1", 2),), 3)))
        p = (((("a1", 1), ("c1", 1)), 1), ((("a1", 3),), 1))
        one_and_b = (((), 1), B)
        self.assertEqual(replaced(p, (("a1", one_and_b),)), (
            ((), 1), ((("b1", 1),), 3), ((("b1", 1), ("c1", 1)), 1), ((("b1", 2),), 3),
            ((("b1", 3),), 1), ((("c1", 1),), 1)))

    def test_it_is_what_plus_and_times_make_one_by_one(self):
        source = random.Random(5)
        for _ in range(60):
            p = any_poly(source)
            news = {token: any_poly(source, terms=3, greatest=2) for token in ("a1", "a10", "a2")}
            total = ZERO
            for monomial, coefficient in p:
                term = constant(coefficient)
                for token, exponent in monomial:
                    for _ in range(exponent):
                        term = plain_product(term, news.get(token, of_token(token)))
                total = plain_sum(total, term)
            self.assertEqual(replaced(p, tuple(news.items())), total)

    def test_400_and_401_terms(self):
        full = sum_of(named("b", 400))
        self.assertEqual(replaced((A,), (("a1", full),)), full)
        self.raises(TooMany, "terms", replaced, (((), 1), A), (("a1", full),))
        self.assertEqual(len(replaced(times(sum_of(["a1"]), sum_of(named("c", 20))), (
            ("a1", sum_of(named("b", 20))),))), 400)
        self.raises(TooMany, "terms", replaced, times((A,), sum_of(named("c", 20))), (
            ("a1", sum_of(named("b", 21))),))
        many = times(sum_of(["a1"]), sum_of(["a2"]))
        self.assertEqual(len(replaced(many, (("a1", powers("b1", 200)), ("a2", powers("b1", 201))))), 400)
        self.raises(TooMany, "terms", replaced, many, (("a1", powers("b1", 201)), ("a2", powers("b1", 201))))

    def test_too_many_is_told_by_the_result_alone(self):
        # On the way to these results there would be far more terms or figures.
        wide, high = sum_of(named("b", 300)), power("b1", 1, GREATEST)
        self.assertEqual(replaced(product_of(("a1", "a2", "a3")), (
            ("a1", wide), ("a2", wide), ("a3", ZERO))), ZERO)
        self.assertEqual(replaced(product_of(("a1", "a2", "a3")), (
            ("a1", high), ("a2", high), ("a3", ZERO))), ZERO)
        self.assertEqual(replaced((((("a1", 1000), ("a2", 1)), 1), B), (("a1", wide), ("a2", ZERO))), (B,))
        self.assertEqual(replaced(power("a1", GREATEST), (("a1", ZERO),)), ZERO)
        self.assertEqual(replaced(plus(power("a1", GREATEST), (B,)), (("a1", ZERO), ("b1", (A,)))), (A,))
        p401 = (((), 1),) + sum_of(named("a", 400))
        self.assertEqual(replaced(p401, tuple((token, ZERO) for token in named("a", 400))), ONE)
        self.assertEqual(replaced(sum_of(named("a", 400)), tuple((t, ONE) for t in named("a", 400))), constant(400))

    def test_figures_of_coefficients(self):
        self.assertEqual(replaced(power("a1", 2), (("a1", constant(3 * 10 ** 49)),)), constant(9 * 10 ** 98))
        self.assertEqual(replaced(power("a1", 99), (("a1", constant(10)),)), constant(10 ** 99))
        self.raises(TooMany, "figures", replaced, power("a1", 100), (("a1", constant(10)),))
        self.raises(TooMany, "figures", replaced, power("a1", 2), (("a1", constant(10 ** 50)),))
        self.raises(TooMany, "figures", replaced, (((), GREATEST), A), (("a1", ONE),))
        self.assertEqual(replaced((((), GREATEST - 1), A), (("a1", ONE),)), constant(GREATEST))

    def test_figures_of_exponents(self):
        p = (((("a1", 1), ("b1", GREATEST - 1)), 1),)
        self.assertEqual(replaced(p, (("a1", (B,)),)), power("b1", GREATEST))
        self.raises(TooMany, "figures", replaced, p, (("a1", power("b1", 2)),))
        self.raises(TooMany, "figures", replaced, power("a1", 1000), (("a1", power("b1", 10 ** 98)),))
        self.assertEqual(replaced(power("a1", 1000), (("a1", power("b1", 10 ** 96)),)), power("b1", 10 ** 99))

    def test_terms_ahead_of_figures(self):
        full = sum_of(named("b", 400))
        p = (((), GREATEST), A)
        self.raises(TooMany, "terms", replaced, p, (("a1", full),))
        self.raises(TooMany, "figures", replaced, p, (("a1", ONE + full[:399]),))
        self.raises(TooMany, "terms", replaced, product_of(("a1", "a2")), (
            ("a1", powers("b1", 201, GREATEST)), ("a2", powers("b1", 201))))
        self.raises(TooMany, "figures", replaced, product_of(("a1", "a2")), (
            ("a1", powers("b1", 200, GREATEST)), ("a2", powers("b1", 201))))
        self.raises(TooMany, "terms", replaced, power("a1", 400), (("a1", p),))
        self.raises(TooMany, "figures", replaced, power("a1", 399), (("a1", p),))
        # Exponents beyond the limit are still unlike: 401 terms, not fewer.
        tall = tuple(((("a1", 1), ("b1", at), ("c1", GREATEST)), 1) for at in range(1, 202))
        self.raises(TooMany, "terms", replaced, tall, (("a1", plus(ONE, of_token("c1"))),))
        self.raises(TooMany, "figures", replaced, tall[:200], (("a1", plus(ONE, of_token("c1"))),))
        self.raises(TooMany, "terms", replaced, tall, (("a1", plus(power("c1", 1), power("c1", 2))),))
        self.raises(TooMany, "figures", replaced, tall[:200], (("a1", plus(power("c1", 1), power("c1", 2))),))

    def test_great_exponents_answer_soon(self):
        # Of 1,000 factors each, with coefficients of 100 figures: only that they are too many is told.
        tokens = named("a", 200)
        p = ((tuple((token, 1000) for token in tokens), GREATEST),)
        self.raises(TooMany, "figures", replaced, p, tuple((t, power("b1", 1, GREATEST)) for t in tokens))
        self.raises(TooMany, "terms", replaced, p, tuple((t, sum_of(["b1", "b2"])) for t in tokens))
        self.assertEqual(replaced(p, tuple((t, (B,)) for t in tokens)), power("b1", 200000, GREATEST))

    def test_far_too_many_terms_are_told_soon(self):
        tokens = named("a", 200)
        pairs = [(token, sum_of(["b" + token[1:], "c" + token[1:]])) for token in tokens]
        self.raises(TooMany, "terms", replaced, product_of(tokens), pairs)
        self.raises(TooMany, "terms", replaced, power("a1", 399), (("a1", sum_of(named("b", 400))),))

    def test_all_powers_of_a_sum(self):
        p = powers("a1", 320)
        made = replaced(p, (("a1", (((), 1), B)),))
        self.assertEqual(len(made), 320)
        self.assertEqual(made[0], ((), 320))
        self.assertEqual(made[319], ((("b1", 319),), 1))
        self.assertEqual(sum(coefficient for _, coefficient in made), 2 ** 320 - 1)


TEXTS = (
    ("0", ZERO),
    ("1", ONE),
    ("7", constant(7)),
    ("a1", of_token("a1")),
    ("a1^2", power("a1", 2)),
    ("3*a1", power("a1", 1, 3)),
    ("10*a1^10", power("a1", 10, 10)),
    ("2 + a1", (((), 2), A)),
    ("a1*b1", product_of(("a1", "b1"))),
    ("a1 + b1", (A, B)),
    ("1 + 2*a1 + a1*b1^3 + a1^2 + z9999", (
        ((), 1), ((("a1", 1),), 2), ((("a1", 1), ("b1", 3)), 1), ((("a1", 2),), 1), ((("z9999", 1),), 1))),
    ("a1 + a10 + a2", sum_of(("a1", "a10", "a2"))),
    ("4*a1*a10*a2", (((("a1", 1), ("a10", 1), ("a2", 1)), 4),)),
)

NO_TEXTS = (
    "", " ", "00", "01", "-1", "+1", "1.0", "1_0", "0*a1", "0 + a1", "a1 + 0", "a1*0",
    "1*a1", "1*1", "a1^1", "a1^0", "a1^01", "a1^-2", "a1^", "^2", "a1^2^2", "a1^ 2", "a1^b1", "a1^^2",
    "a1*", "*a1", "a1**b1", "2*", "*", "2*3", "a1*2", "2*3*a1", "2a1", "a1b1",
    "b1*a1", "a1*a1", "a2*a10", "b1 + a1", "a1 + a1", "a2 + a10", "a1 + 1", "1 + 1", "a1^2 + a1", "a1 + 2*a1",
    "a1+b1", "a1  + b1", "a1 +  b1", "a1 + ", " + a1", "a1 + + b1", " a1", "a1 ", "a1\n", "\na1", "a1 - b1",
    "a", "1a", "a0", "a01", "a12345", "A1", "ab1", "aa", "a1a", "a 1", "a1 * b1", "a1*b1 +", "(a1)", "a-1",
    "\u00e91", "a\u0661", "\u0661", "a\u00b2", "\u00b2", "a1^\u0662", "\uff11", "a1 + b\uff11",
)

NO_STRINGS = (
    None, 0, 1, -1, 10 ** 200, (), (((), 1),), [], ["0"], ("a1",), ("a1", "+"), [["a1", 1]], (None,), ((((),),),))


class Texts(Case):

    def test_texts_of_polynomials(self):
        for text, p in TEXTS:
            self.assertEqual(poly_text(p), text)

    def test_polynomials_of_texts(self):
        for text, p in TEXTS:
            self.assertEqual(read_poly(text), p)

    def test_texts_that_are_none(self):
        for text in NO_TEXTS:
            with self.subTest(text=text):
                self.raises(BadValue, 0, read_poly, text)

    def test_other_values_than_strings(self):
        for value in NO_STRINGS:
            with self.subTest(value=value):
                self.raises(BadValue, 0, read_poly, value)

    def test_a_sign_more_or_less_makes_another_text(self):
        text = "1 + 2*a1 + a1*b1^3 + a1^2 + z9999"
        for at in range(len(text)):
            for sign in ("", "0", "1", "a", "*", "^", " ", "+"):
                other = text[:at] + sign + text[at + 1:]
                try:
                    self.assertEqual(poly_text(read_poly(other)), other)
                except BadValue as error:
                    self.assertEqual(error.at, 0)

    def test_400_and_401_terms(self):
        for many in (399, 400):
            p = sum_of(named("a", many))
            self.assertEqual(read_poly(poly_text(p)), p)
        self.raises(BadValue, 0, read_poly, poly_text(sum_of(named("a", 401))))
        self.raises(BadValue, 0, read_poly, poly_text(ONE + sum_of(named("a", 400))))

    def test_100_and_101_figures(self):
        for number in (10 ** 99, GREATEST):
            for text in (f"{number}", f"{number}*a1", f"a1^{number}", f"{number}*a1^{number}*b1^{number}"):
                self.assertEqual(poly_text(read_poly(text)), text)
        self.assertEqual(read_poly(f"{GREATEST}*a1^{GREATEST}"), power("a1", GREATEST, GREATEST))
        for number in (str(10 ** 100), "1" * 101, "9" * 10000):
            for text in (number, f"{number}*a1", f"a1^{number}", f"1 + a1^{number}"):
                self.raises(BadValue, 0, read_poly, text)

    def test_there_and_back(self):
        source = random.Random(6)
        for _ in range(100):
            p = any_poly(source, terms=8, greatest=12)
            self.assertEqual(read_poly(poly_text(p)), p)


if __name__ == "__main__":
    unittest.main()
