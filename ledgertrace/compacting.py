"""Compaction: of the records of a ledger those that some of its artifacts need."""

from ledgertrace.cells import is_sequence
from ledgertrace.errors import BadValue
from ledgertrace.ledgers import rebuilt
from ledgertrace.renaming import new_numbers, numbers_in, with_numbers


def compacted(records, roots):
    """The records that the roots need, with new numbers of versions and tokens."""
    kept = _needed_records(records, roots)
    versions = _new_versions(kept)
    numbers = new_numbers([(0, record) for record in kept], 1)[0]
    return tuple([_with_versions(with_numbers(record, numbers), versions) for record in kept])


def kept_versions(records, roots):
    """The triples (artifact, elder version, newer version) of what the roots need."""
    versions = _new_versions(_needed_records(records, roots))
    return tuple(sorted([(name, elder, newer) for (name, elder), newer in versions.items()]))


def _needed_records(records, roots):
    """The records that the roots need, as they are."""
    ledger = rebuilt("a", records)
    if not is_sequence(roots) or not all([_is_root(ledger, root) for root in roots]):
        raise BadValue(1)
    places = {(name, version): True for name, version in roots}
    numbers = {}
    # All inputs of a record are elder than itself, so from the last record
    # on it is known whether one is needed as soon as it is met.
    for record in reversed(ledger.records()):
        if record[0] != "forget" and (record[1], record[2]) in places:
            for number in numbers_in(record):
                numbers[number] = True
            for place in _places_of_inputs(record):
                places[place] = True
    return [record for record in ledger.records() if _is_needed(record, places, numbers)]


def _places_of_inputs(record):
    """The pairs (artifact, version) of the inputs of a record."""
    if record[0] != "step":
        return []
    return [(artifact, version) for _, artifact, version in record[4]]


def _is_root(ledger, value):
    """Whether value is a pair (artifact, version) that is there."""
    return is_sequence(value) and len(value) == 2 and ledger.has_version(value[0], value[1])


def _is_needed(record, places, numbers):
    if record[0] == "forget":
        return record[1] in numbers
    return (record[1], record[2]) in places


def _new_versions(kept):
    """Of each pair (artifact, elder version) the newer version, as a dict."""
    found = {}
    counts = {}
    for record in kept:
        if record[0] != "forget":
            newer = counts.get(record[1], 0)
            counts[record[1]] = newer + 1
            found[(record[1], record[2])] = newer
    return found


def _with_versions(record, versions):
    """The record with its newer version, and those of its inputs."""
    if record[0] == "forget":
        return record
    newer = record[:2] + (versions[(record[1], record[2])],) + record[3:]
    if record[0] == "source":
        return newer
    inputs = [(alias, artifact, versions[(artifact, version)]) for alias, artifact, version in record[4]]
    return newer[:4] + (tuple(inputs),) + newer[5:]
