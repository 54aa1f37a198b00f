"""What the tests share: ways to make polynomials, and ways to ask for errors."""

import unittest

# The greatest number of 100 figures.
GREATEST = 10 ** 100 - 1


class Case(unittest.TestCase):

    def raises(self, error, told, call, *args, **more):
        """The call raises just this error, with this argument in its one attribute."""
        with self.assertRaises(error) as caught:
            call(*args, **more)
        self.assertIs(type(caught.exception), error)
        self.assertEqual(list(vars(caught.exception).values()), [told])
        self.assertEqual([type(each) for each in vars(caught.exception).values()], [type(told)])


def named(letter, many):
    """The first so many tokens of this letter, rising as strings."""
    return tuple(sorted(f"{letter}{number}" for number in range(1, many + 1)))


def sum_of(tokens):
    """The polynomial that is the sum of these tokens."""
    return tuple((((token, 1),), 1) for token in sorted(tokens))


def powers(token, many, coefficient=1):
    """The polynomial 1 + token + token^2 + .. of so many terms."""
    return tuple((((token, at),) if at else (), coefficient) for at in range(many))


def product_of(tokens):
    """The polynomial that is the product of these tokens."""
    return ((tuple((token, 1) for token in sorted(tokens)), 1),)


def as_lists(value):
    """The same value with a list in place of each tuple."""
    if isinstance(value, (tuple, list)):
        return [as_lists(part) for part in value]
    return value


def has_list(value):
    """Whether some part of a value is a list."""
    return isinstance(value, list) or isinstance(value, tuple) and any(has_list(part) for part in value)


def plain_sum(p, q):
    """The sum of two polynomials without any limit, made in another way than the program's."""
    terms = list(p) + list(q)
    return tuple((m, sum(c for n, c in terms if n == m)) for m in sorted({m for m, _ in terms}))


def plain_product(p, q):
    """The product of two polynomials without any limit, made in another way than the program's."""
    total = ()
    for one, c in p:
        for other, d in q:
            tokens = sorted({token for token, _ in one + other})
            exponents = [(t, sum(e for u, e in one + other if u == t)) for t in tokens]
            total = plain_sum(total, ((tuple(exponents), c * d),))
    return total


def any_poly(source, tokens=("a1", "a10", "a2", "b1"), terms=4, greatest=3):
    """Some polynomial; source is a random.Random."""
    found = {}
    for _ in range(source.randrange(terms + 1)):
        chosen = sorted(source.sample(tokens, source.randrange(len(tokens))))
        found[tuple((token, source.randint(1, greatest)) for token in chosen)] = source.randint(1, greatest)
    return tuple(sorted(found.items()))
