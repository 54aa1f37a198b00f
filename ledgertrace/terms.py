"""Sums and products of terms, kept as dicts of coefficients by monomial."""

from ledgertrace.common import BEYOND_FIGURES, MOST_TERMS
from ledgertrace.errors import TooMany


def frozen(p):
    """The polynomial p, which may consist of lists, as tuples."""
    return tuple([
        (tuple([(token, exponent) for token, exponent in monomial]), coefficient)
        for monomial, coefficient in p
    ])


def put(found, monomial, coefficient):
    """Add a term to the dict found, of coefficients by monomial."""
    # Beyond the limit the very number tells nothing more: stopping there keeps
    # numbers small that would have very many figures. (Exponents are not stopped:
    # unlike monomials have to stay unlike, as terms are looked at first.)
    found[monomial] = min(found.get(monomial, 0) + coefficient, BEYOND_FIGURES)


def product_terms(terms, others):
    """The product of two sequences of terms, as coefficients by monomial."""
    found = {}
    for monomial, coefficient in terms:
        for another, factor in others:
            put(found, _joined(monomial, another), coefficient * factor)
        # No coefficient is below 1, so no later term takes one away.
        check_terms(found)
    return found


def _joined(monomial, another):
    """The product of two monomials."""
    if not monomial:
        return another
    if not another:
        return monomial
    exponents = dict(monomial)
    for token, exponent in another:
        exponents[token] = exponents.get(token, 0) + exponent
    return tuple(sorted(exponents.items()))


def check_terms(terms):
    """TooMany for more terms than a polynomial may have."""
    if len(terms) > MOST_TERMS:
        raise TooMany("terms")


def check_figures(terms):
    """TooMany for a coefficient or an exponent of too many figures in a sequence of terms."""
    for monomial, coefficient in terms:
        if coefficient >= BEYOND_FIGURES or any([pair[1] >= BEYOND_FIGURES for pair in monomial]):
            raise TooMany("figures")


def left_of(terms, gone):
    """The terms that have none of the tokens in the dict gone."""
    return tuple([term for term in terms if not any([pair[0] in gone for pair in term[0]])])


def as_terms(found):
    """The terms of these coefficients by monomial, rising, whether or not they are too many."""
    return tuple(sorted(found.items()))


def poly_of(found):
    """The polynomial of these coefficients by monomial, if it is within the limits."""
    check_terms(found)
    made = as_terms(found)
    check_figures(made)
    return made
