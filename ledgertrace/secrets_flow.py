"""Secrets: who may see a row, as it follows from who may see what it was made from."""

from ledgertrace.why import least_lacking, lies_within


def seers(p, grants, persons):
    """The persons who may see all tokens of some term."""
    return tuple([person for person in persons if lies_within(p, _granted(grants, person))])


def seen_table(table, grants, person):
    """The rows of the table that the person may see."""
    held = _granted(grants, person)
    return tuple([tuple(row) for row, p in table if lies_within(p, held)])


def leaks(table, grants, person):
    """The rows that the person may not see, each with the least sets of tokens that would change this."""
    held = _granted(grants, person)
    return tuple([
        (tuple(row), least_lacking(p, held)) for row, p in table if not lies_within(p, held)
    ])


def _granted(grants, person):
    """The tokens that the person may see, as a dict."""
    return {token: True for token, persons in grants if person in persons}
