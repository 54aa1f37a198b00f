"""Chances: how surely a polynomial is there if each token is there by chance."""

from math import gcd

from ledgertrace.common import need_all
from ledgertrace.errors import TooMany
from ledgertrace.polys import tokens_of

MOST_TOKENS = 12


def chance(p, given):
    """The chance, in least terms, that some term of p has all its tokens there."""
    chances = dict(given)
    tokens = tokens_of(p)
    need_all(tokens, chances)
    if len(tokens) > MOST_TOKENS:
        raise TooMany("tokens")
    sure = _there_by_set(p, tokens)
    whole = 1
    # The last token has the highest bit, so the sets without it are the first half:
    # each step settles one token and keeps all numbers whole.
    for token in reversed(tokens):
        n, d = chances[token]
        half = len(sure) // 2
        sure = [sure[k] * (d - n) + sure[k + half] * n for k in range(half)]
        whole = whole * d
    shared = gcd(sure[0], whole)
    return sure[0] // shared, whole // shared


def _there_by_set(p, tokens):
    """For each set of tokens, as a number with a bit for each: 1 if a term lies within it, or 0."""
    bits = {token: 1 << at for at, token in enumerate(tokens)}
    many = 1 << len(tokens)
    there = [0] * many
    for term in p:
        there[sum([bits[pair[0]] for pair in term[0]])] = 1
    for bit in bits.values():
        for held in range(many):
            if held & bit and there[held - bit]:
                there[held] = 1
    return there
