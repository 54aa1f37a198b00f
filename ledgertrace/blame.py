"""Blame: how much of a row's being there rests on one token."""

from ledgertrace.polys import tokens_of
from ledgertrace.why import breakers, set_order


def contingency(p, token):
    """The least set of other tokens without which the row rests on this token; None if there is none."""
    return _contingency(breakers(p), token)


def blame(p, token):
    """The blame of a token, as a pair (n, d)."""
    return _blame(breakers(p), token)


def blames(p):
    """The tokens of p, each with its blame, the greatest first."""
    sets = breakers(p)
    return tuple(sorted([(token, _blame(sets, token)) for token in tokens_of(p)], key=_blame_order))


def _contingency(sets, token):
    # The row is lost just if a breaker is gone. So what is gone beside the token holds the
    # rest of a breaker that has the token, and such a rest alone holds no breaker.
    rests = [tuple([other for other in each if other != token]) for each in sets if token in each]
    return min(rests, key=set_order, default=None)


def _blame(sets, token):
    rest = _contingency(sets, token)
    if rest is None:
        return (0, 1)
    return (1, 1 + len(rest))


def _blame_order(pair):
    token, (n, d) = pair
    return (1 - n, d, token)
