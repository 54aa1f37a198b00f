"""Why not: which least additions of source rows would bring a row."""

from ledgertrace.cells import is_number, is_row, is_sequence
from ledgertrace.errors import BadValue
from ledgertrace.polys import tokens_of
from ledgertrace.programs import width_of
from ledgertrace.running import run
from ledgertrace.tables import poly_at
from ledgertrace.whatif import read_changes, tables_behind
from ledgertrace.why import least_lacking


def additions(program, tables, candidates, row):
    """The least sets of candidates, by their tokens, that bring the row."""
    run(program, tables)
    gone, news = read_changes(tables, candidates, 2)
    if gone:
        raise BadValue(2)
    if not is_row(row) or len(row) != width_of(program, [(name, width) for name, width, _ in tables]):
        raise BadValue(3)
    p = poly_at(run(program, tables_behind(tables, {}, news)), row)
    added = {token: True for _, _, token in news}
    return least_lacking(p, {token: True for token in tokens_of(p) if token not in added})


def nearest(program, tables, candidates, row, prices):
    """The cheapest of the additions, as a pair (price, set); None if there are none."""
    sets = additions(program, tables, candidates, row)
    if not _are_prices(prices, [candidate[3] for candidate in candidates]):
        raise BadValue(4)
    price_of = dict(prices)
    priced = [(sum([price_of[token] for token in each]), each) for each in sets]
    return min(priced, key=lambda pair: pair[0], default=None)


def _are_prices(value, tokens):
    """Whether value is a sequence of pairs (token, number), one for each of the tokens."""
    if not is_sequence(value) or not all([_is_price(pair) for pair in value]):
        return False
    return sorted([pair[0] for pair in value]) == sorted(tokens)


def _is_price(value):
    if not is_sequence(value) or len(value) != 2 or not isinstance(value[0], str):
        return False
    return is_number(value[1])
