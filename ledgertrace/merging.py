"""Merging: the records of two ledgers in one."""

from ledgertrace.errors import TooMany, Unlike
from ledgertrace.ledgers import MOST_TOKENS, rebuilt
from ledgertrace.renaming import new_numbers, with_numbers


def merged(records, others):
    """The records of both ledgers by their times, with new numbers of the tokens."""
    told = _told_together(records, others)
    numbers = new_numbers(told, 2)
    return tuple([with_numbers(record, numbers[at]) for at, record in told])


def renumbered(records, others):
    """The pairs (elder number, newer number) of the tokens of the one ledger, and of the other one."""
    numbers = new_numbers(_told_together(records, others), 2)
    return tuple([tuple(sorted(each.items())) for each in numbers])


def _told_together(records, others):
    """The pairs (0 or 1, record) of records and of others by their times; errors if they do not go together."""
    # Records and what follows from them hang on no ledger's name.
    one = rebuilt("a", records)
    other = rebuilt("a", others)
    for record in other.records():
        if record[0] != "forget" and one.versions(record[1]) > 0:
            raise Unlike(record[1])
    told = [(0, record) for record in one.records()] + [(1, record) for record in other.records()]
    if sum([len(each) for each in new_numbers(told, 2)]) > MOST_TOKENS:
        raise TooMany("tokens")
    # Times never fall within a ledger, and of equal ones sorting leaves the first one ahead.
    return sorted(told, key=lambda pair: pair[1][-1])
