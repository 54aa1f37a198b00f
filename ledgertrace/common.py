"""What several modules share: limits, and arithmetic that stops at a bound."""

from ledgertrace.errors import NothingThere, TooMany

MOST_ROWS = 400
MOST_TERMS = 400
MOST_FIGURES = 100
# The least number that has more than MOST_FIGURES figures.
BEYOND_FIGURES = 10 ** 50 * 10 ** 50


def capped_power(base, exponent, cap):
    """The power of base with this exponent, from 1 on; cap if the power is not below it."""
    if base < 2:
        return base
    power = 1
    # From the highest bit down no number on the way is above the result,
    # so stopping at the cap is right, and soon, however great the exponent is.
    for place in reversed(range(exponent.bit_length())):
        power = power * power
        if exponent >> place & 1:
            power = power * base
        if power >= cap:
            return cap
    return power


def need_all(tokens, values):
    """Raise NothingThere for the first of these tokens that the dict values lacks."""
    for token in tokens:
        if token not in values:
            raise NothingThere(token)


def check_rows(rows):
    """TooMany for more rows than a table may have."""
    if len(rows) > MOST_ROWS:
        raise TooMany("rows")
