"""Polynomials over tokens, as tuples: sums and products, replacing, and their text."""

from ledgertrace.cells import is_token, tells_number
from ledgertrace.common import BEYOND_FIGURES, MOST_FIGURES, MOST_TERMS, capped_power
from ledgertrace.errors import BadValue, TooMany
from ledgertrace.terms import check_terms, frozen, poly_of, product_terms, put

ZERO = ()
ONE = (((), 1),)


def of_token(token):
    """The polynomial of this token alone."""
    return ((((token, 1),), 1),)


def plus(p, q):
    """The sum of two polynomials."""
    found = {}
    for monomial, coefficient in frozen(p) + frozen(q):
        put(found, monomial, coefficient)
    return poly_of(found)


def times(p, q):
    """The product of two polynomials."""
    return poly_of(product_terms(frozen(p), frozen(q)))


def tokens_of(p):
    """The tokens that stand in p, rising."""
    return tuple(sorted({pair[0] for term in p for pair in term[0]}))


def degree(p):
    """The greatest sum of exponents of a monomial of p; 0 for ZERO."""
    return max([sum([pair[1] for pair in term[0]]) for term in p], default=0)


def replaced(p, pairs):
    """The polynomial p with each token of the pairs (token, polynomial) replaced, all at once."""
    news = {token: frozen(new) for token, new in pairs}
    powers = {new: {} for new in news.values()}
    found = {}
    for monomial, coefficient in frozen(p):
        # What becomes ZERO is left out ahead of all powers: the limits are those of the result.
        if all([news.get(token, ONE) for token, _ in monomial]):
            for another, factor in _replaced_term(monomial, coefficient, news, powers):
                put(found, another, factor)
            check_terms(found)
    return poly_of(found)


def _replaced_term(monomial, coefficient, news, powers):
    """The terms that one term becomes; powers holds, for each new polynomial, its known powers."""
    stays = tuple([pair for pair in monomial if pair[0] not in news])
    terms = [(stays, coefficient)]
    for token, exponent in monomial:
        if token in news:
            new = news[token]
            terms = list(product_terms(terms, _raised(new, exponent, powers[new])).items())
    return terms


def _raised(terms, exponent, known):
    """The terms of a power; known is a dict of the powers made so far, by exponent."""
    if len(terms) == 1:
        monomial, coefficient = terms[0]
        bases = tuple([(token, each * exponent) for token, each in monomial])
        return [(bases, capped_power(coefficient, exponent, BEYOND_FIGURES))]
    # Of two terms or more, each further factor brings at least one term more.
    if exponent >= MOST_TERMS:
        raise TooMany("terms")
    if exponent == 1:
        return terms
    if exponent not in known:
        # From the nearest known power beyond the half of the way, or from the half.
        start = max([each for each in known if each < exponent <= 2 * each], default=exponent // 2)
        one = _raised(terms, start, known)
        other = _raised(terms, exponent - start, known)
        known[exponent] = list(product_terms(one, other).items())
    return known[exponent]


def poly_text(p):
    """The text of the polynomial p."""
    if not p:
        return "0"
    return " + ".join([_term_text(monomial, coefficient) for monomial, coefficient in p])


def _term_text(monomial, coefficient):
    words = [_power_text(token, exponent) for token, exponent in monomial]
    if coefficient != 1 or not words:
        words = [str(coefficient)] + words
    return "*".join(words)


def _power_text(token, exponent):
    if exponent == 1:
        return token
    return f"{token}^{exponent}"


def read_poly(text):
    """The polynomial with this text; BadValue(0) if there is none."""
    if not isinstance(text, str):
        raise BadValue(0)
    if text == "0":
        return ZERO
    words = text.split(" + ")
    if len(words) > MOST_TERMS:
        raise BadValue(0)
    p = tuple([_read_term(word) for word in words])
    if not _rises(p) or not all([_rises(monomial) for monomial, _ in p]):
        raise BadValue(0)
    # A polynomial has one text: this finds each number 1 that is told without need.
    if poly_text(p) != text:
        raise BadValue(0)
    return p


def _rises(pairs):
    """Whether the first parts of the pairs rise, none standing twice."""
    heads = [pair[0] for pair in pairs]
    return all([head < behind for head, behind in zip(heads, heads[1:])])


def _read_term(word):
    factors = word.split("*")
    if not tells_number(factors[0]):
        return tuple([_read_power(factor) for factor in factors]), 1
    return tuple([_read_power(factor) for factor in factors[1:]]), _read_number(factors[0])


def _read_power(word):
    token, sign, figures = word.partition("^")
    if not is_token(token):
        raise BadValue(0)
    if not sign:
        return token, 1
    return token, _read_number(figures)


def _read_number(word):
    # The length is looked at first: Python refuses to read very long numbers.
    if len(word) > MOST_FIGURES or not tells_number(word):
        raise BadValue(0)
    return int(word)
