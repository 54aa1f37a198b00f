"""New numbers for the tokens of records that are put together anew."""


def new_numbers(told, many):
    """Of each of so many ledgers a dict of its tokens' numbers, elder to newer.

    told is the sequence of the pairs (which ledger, record): tokens are counted by it.
    """
    found = [{} for _ in range(many)]
    count = 0
    for at, record in told:
        for number in numbers_in(record):
            count += 1
            found[at][number] = count
    return found


def numbers_in(record):
    """The numbers of the tokens that the rows of a record have, as a list."""
    if record[0] != "source":
        return []
    _, _, _, _, rows, first, _, _ = record
    return [first + at for at in range(len(rows))]


def with_numbers(record, numbers):
    """The record with these numbers, a dict, for its elder ones."""
    if record[0] == "source":
        _, name, version, width, rows, first, person, time = record
        return ("source", name, version, width, rows, numbers[first], person, time)
    if record[0] == "forget":
        _, number, person, time = record
        return ("forget", numbers[number], person, time)
    return record
