"""Polynomials over tokens, as tuples: sums and products, replacing, and their text."""

from ledgertrace.common import BEYOND_FIGURES, MOST_FIGURES, MOST_TERMS, capped_power
from ledgertrace.errors import BadValue, TooMany

ZERO = ()
ONE = (((), 1),)


def of_token(token):
    """The polynomial of this token alone."""
    return ((((token, 1),), 1),)


def plus(p, q):
    """The sum of two polynomials."""
    found = {}
    for monomial, coefficient in _frozen(p) + _frozen(q):
        _put(found, monomial, coefficient)
    return _poly(found)


def times(p, q):
    """The product of two polynomials."""
    return _poly(_product(_frozen(p), _frozen(q)))


def tokens_of(p):
    """The tokens that stand in p, rising."""
    return tuple(sorted({pair[0] for term in p for pair in term[0]}))


def degree(p):
    """The greatest sum of exponents of a monomial of p; 0 for ZERO."""
    return max([sum([pair[1] for pair in term[0]]) for term in p], default=0)


def _frozen(p):
    """The polynomial p, which may consist of lists, as tuples."""
    return tuple([
        (tuple([(token, exponent) for token, exponent in monomial]), coefficient)
        for monomial, coefficient in p
    ])


def _put(found, monomial, coefficient):
    """Add a term to the dict found, of coefficients by monomial."""
    # Beyond the limit the very number tells nothing more: stopping there keeps
    # numbers small that would have very many figures. (Exponents are not stopped:
    # unlike monomials have to stay unlike, as terms are looked at first.)
    found[monomial] = min(found.get(monomial, 0) + coefficient, BEYOND_FIGURES)


def _product(terms, others):
    """The product of two sequences of terms, as coefficients by monomial."""
    found = {}
    for monomial, coefficient in terms:
        for another, factor in others:
            _put(found, _joined(monomial, another), coefficient * factor)
        # No coefficient is below 1, so no later term takes one away.
        _check_terms(found)
    return found


def _joined(monomial, another):
    """The product of two monomials."""
    if not monomial:
        return another
    if not another:
        return monomial
    exponents = dict(monomial)
    for token, exponent in another:
        exponents[token] = exponents.get(token, 0) + exponent
    return tuple(sorted(exponents.items()))


def _check_terms(found):
    if len(found) > MOST_TERMS:
        raise TooMany("terms")


def _poly(found):
    """The polynomial of these coefficients by monomial, if it is within the limits."""
    _check_terms(found)
    for monomial, coefficient in found.items():
        if coefficient >= BEYOND_FIGURES or any([pair[1] >= BEYOND_FIGURES for pair in monomial]):
            raise TooMany("figures")
    return tuple(sorted(found.items()))


def replaced(p, pairs):
    """The polynomial p with each token of the pairs (token, polynomial) replaced, all at once."""
    news = {token: _frozen(new) for token, new in pairs}
    powers = {new: {} for new in news.values()}
    found = {}
    for monomial, coefficient in _frozen(p):
        # What becomes ZERO is left out ahead of all powers: the limits are those of the result.
        if all([news.get(token, ONE) for token, _ in monomial]):
            for another, factor in _replaced_term(monomial, coefficient, news, powers):
                _put(found, another, factor)
            _check_terms(found)
    return _poly(found)


def _replaced_term(monomial, coefficient, news, powers):
    """The terms that one term becomes; powers holds, for each new polynomial, its known powers."""
    stays = tuple([pair for pair in monomial if pair[0] not in news])
    terms = [(stays, coefficient)]
    for token, exponent in monomial:
        if token in news:
            new = news[token]
            terms = list(_product(terms, _raised(new, exponent, powers[new])).items())
    return terms


def _raised(terms, exponent, known):
    """The terms of a power; known is a dict of the powers made so far, by exponent."""
    if len(terms) == 1:
        monomial, coefficient = terms[0]
        bases = tuple([(token, each * exponent) for token, each in monomial])
        return [(bases, capped_power(coefficient, exponent, BEYOND_FIGURES))]
    # Of two terms or more, each further factor brings at least one term more.
    if exponent >= MOST_TERMS:
        raise TooMany("terms")
    if exponent == 1:
        return terms
    if exponent not in known:
        # From the nearest known power beyond the half of the way, or from the half.
        start = max([each for each in known if each < exponent <= 2 * each], default=exponent // 2)
        one = _raised(terms, start, known)
        other = _raised(terms, exponent - start, known)
        known[exponent] = list(_product(one, other).items())
    return known[exponent]


def poly_text(p):
    """The text of the polynomial p."""
    if not p:
        return "0"
    return " + ".join([_term_text(monomial, coefficient) for monomial, coefficient in p])


def _term_text(monomial, coefficient):
    words = [_power_text(token, exponent) for token, exponent in monomial]
    if coefficient != 1 or not words:
        words = [str(coefficient)] + words
    return "*".join(words)


def _power_text(token, exponent):
    if exponent == 1:
        return token
    return f"{token}^{exponent}"


def read_poly(text):
    """The polynomial with this text; BadValue(0) if there is none."""
    if not isinstance(text, str):
        raise BadValue(0)
    if text == "0":
        return ZERO
    words = text.split(" + ")
    if len(words) > MOST_TERMS:
        raise BadValue(0)
    p = tuple([_read_term(word) for word in words])
    if not _rises(p) or not all([_rises(monomial) for monomial, _ in p]):
        raise BadValue(0)
    # A polynomial has one text: this finds each number 1 that is told without need.
    if poly_text(p) != text:
        raise BadValue(0)
    return p


def _rises(pairs):
    """Whether the first parts of the pairs rise, none standing twice."""
    heads = [pair[0] for pair in pairs]
    return all([head < behind for head, behind in zip(heads, heads[1:])])


def _read_term(word):
    factors = word.split("*")
    if not _tells_number(factors[0]):
        return tuple([_read_power(factor) for factor in factors]), 1
    return tuple([_read_power(factor) for factor in factors[1:]]), _read_number(factors[0])


def _read_power(word):
    token, sign, figures = word.partition("^")
    if not _is_token(token):
        raise BadValue(0)
    if not sign:
        return token, 1
    return token, _read_number(figures)


def _read_number(word):
    # The length is looked at first: Python refuses to read very long numbers.
    if len(word) > MOST_FIGURES or not _tells_number(word):
        raise BadValue(0)
    return int(word)


def _tells_number(word):
    """Whether word is the figures of a number from 1 on."""
    return word.isascii() and word.isdigit() and word[0] != "0"


def _is_token(word):
    return "a" <= word[:1] <= "z" and len(word) <= 5 and _tells_number(word[1:])
