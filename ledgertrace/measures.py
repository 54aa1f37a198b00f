"""Measures: what a polynomial is worth if each of its tokens has a value."""

from ledgertrace.common import BEYOND_FIGURES, capped_power, need_all
from ledgertrace.errors import NothingThere, TooMany
from ledgertrace.polys import tokens_of

MEASURES = ("count", "cost", "trust", "there", "seen")

_ZEROS = {"count": 0, "cost": None, "trust": 0, "there": False, "seen": ()}
_ONES = {"count": 1, "cost": 0, "trust": 100, "there": True}


def valued(p, measure, given):
    """The value of p in this measure, by the pairs (token, value) of given."""
    values = dict(given)
    if measure == "seen" and "" not in values:
        raise NothingThere("")
    need_all(tokens_of(p), values)
    if measure == "count":
        return _counted(p, values)
    persons = values.get("")
    total = measured_zero(measure, persons)
    for monomial, _ in p:
        worth = measured_one(measure, persons)
        for token, exponent in monomial:
            worth = measured_times(measure, worth, _raised(measure, values[token], exponent))
        total = measured_plus(measure, total, worth)
    return total


def measured_plus(measure, a, b):
    """The measure's own sum of two values."""
    if measure == "count":
        return a + b
    if measure == "cost":
        return _lesser_cost(a, b)
    if measure == "trust":
        return max(a, b)
    if measure == "there":
        return a or b
    return tuple(sorted(set(a) | set(b)))


def measured_times(measure, a, b):
    """The measure's own product of two values."""
    if measure == "count":
        return a * b
    if measure == "cost":
        return _added_cost(a, b)
    if measure == "trust":
        return min(a, b)
    if measure == "there":
        return a and b
    return tuple(sorted(set(a) & set(b)))


def measured_zero(measure, persons):
    """The value of ZERO."""
    return _ZEROS[measure]


def measured_one(measure, persons):
    """The value of ONE: for "seen" all persons."""
    if measure == "seen":
        return tuple(persons)
    return _ONES[measure]


def _counted(p, values):
    """The count of p; TooMany for more than 4,000 figures."""
    # Sums and products of numbers from 0 on that stop at the bound reach it
    # just if the true ones do, also where a 0 comes late.
    beyond = BEYOND_FIGURES ** 40
    total = 0
    for monomial, coefficient in p:
        many = coefficient
        for token, exponent in monomial:
            many = min(many * capped_power(values[token], exponent, beyond), beyond)
        total = total + many
        if total >= beyond:
            raise TooMany("figures")
    return total


def _raised(measure, value, exponent):
    """A value times itself, as often as exponent tells: only costs grow by it."""
    if measure == "cost" and value is not None:
        return value * exponent
    return value


def _lesser_cost(a, b):
    """The lesser of two costs; None is above all numbers."""
    if a is None:
        return b
    if b is None:
        return a
    return min(a, b)


def _added_cost(a, b):
    """The sum of two costs; None if one of them is None."""
    if a is None or b is None:
        return None
    return a + b
