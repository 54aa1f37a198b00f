"""Ledgers: sources that people put in, steps that make tables out of them, and rows that are forgotten."""

from ledgertrace.cells import (
    MOST_CELLS, are_rows, is_integer, is_letters, is_number, is_row, is_sequence, is_token, is_word)
from ledgertrace.chain import gone_row, is_gone, tells_gone
from ledgertrace.common import check_rows
from ledgertrace.errors import BadProgram, BadRecord, BadValue, NothingThere, TooMany
from ledgertrace.polys import tokens_of
from ledgertrace.programs import program_text, read_program, width_of
from ledgertrace.running import run
from ledgertrace.tables import table_left, tagged

MOST_TOKENS = 9999


class Version:
    """One version of an artifact: its width, its table, the sources it was made from, and who made it when."""

    def __init__(self, row_width, pairs, origins, made_by):
        self.row_width = row_width
        self.pairs = pairs
        self.origins = origins
        self.made_by = made_by
        self.bears = {token: True for _, p in pairs for token in tokens_of(p)}

    def lose(self, token):
        """Take a token out of the table."""
        if token in self.bears:
            self.pairs = table_left(self.pairs, {token: True})


class Ledger:
    """Who made what from what, as records, and the tables that follow from them."""

    def __init__(self, name):
        if not is_letters(name) or len(name) != 1:
            raise BadValue(0)
        self.letter = name
        self.told = []
        self.made = {}
        # Of each token, by its number from 1 on: the number of its record.
        self.homes = []

    def source(self, name, rows, person, time):
        """Put in rows, each with the next token: a new version of this artifact."""
        if not is_word(name):
            raise BadValue(0)
        if not are_rows(rows) or len(rows) == 0:
            raise BadValue(1)
        self.check_maker(person, time, 2)
        return self.put_source(name, len(rows[0]), rows, person, time)

    def step(self, name, program, inputs, person, time):
        """Make a new version of this artifact by a program."""
        if not is_word(name):
            raise BadValue(0)
        if not self.are_inputs(inputs):
            raise BadValue(2)
        taken = [(alias, self.version_at(artifact, number)) for alias, artifact, number in inputs]
        row_width = width_of(program, [(alias, each.row_width) for alias, each in taken])
        self.check_maker(person, time, 3)
        table = run(program, [(alias, each.row_width, each.pairs) for alias, each in taken])
        origins = tuple(sorted({pair for _, each in taken for pair in each.origins}))
        version = self.versions(name)
        self.put_version(name, Version(row_width, table, origins, (person, time)))
        parts = tuple([tuple(each) for each in inputs])
        self.told.append(("step", name, version, program_text(program), parts, person, time))
        return version

    def forget(self, token, person, time):
        """Forget the source row with this token."""
        if not self.is_left(token):
            raise NothingThere(token)
        self.check_maker(person, time, 1)
        number = int(token[1:])
        home = self.homes[number - 1]
        _, name, version, row_width, rows, first, maker, made_at = self.told[home]
        rows = tuple([gone_row(row) if first + at == number else row for at, row in enumerate(rows)])
        self.told[home] = ("source", name, version, row_width, rows, first, maker, made_at)
        for versions in self.made.values():
            for each in versions:
                each.lose(token)
        self.told.append(("forget", number, person, time))

    def table(self, name, version):
        """The tagged table of a version."""
        return self.version_at(name, version).pairs

    def width(self, name, version):
        """The width of the rows of a version."""
        return self.version_at(name, version).row_width

    def versions(self, name):
        """How many versions an artifact has."""
        return len(self.made.get(name, ()))

    def names(self):
        """The names of all artifacts, rising."""
        return tuple(sorted(self.made))

    def maker(self, name, version):
        """The person who made a version, and the time."""
        return self.version_at(name, version).made_by

    def sources_of(self, name, version):
        """All sources that a version was made from."""
        return self.version_at(name, version).origins

    def tokens_left(self):
        """The tokens of all source rows that are not forgotten, each with where it stands, and the row."""
        found = []
        for record in self.told:
            if record[0] == "source":
                _, name, version, _, rows, first, _, _ = record
                found.extend([
                    (self.letter + str(first + at), name, version, row)
                    for at, row in enumerate(rows) if not is_gone(row)
                ])
        return tuple(found)

    def records(self):
        """All records, as they stand now."""
        return tuple(self.told)

    def check_maker(self, person, time, at):
        """BadValue for who can not be a person, and behind it for what can not be the next time."""
        if not is_word(person):
            raise BadValue(at)
        if not is_number(time) or self.told and time < self.told[-1][-1]:
            raise BadValue(at + 1)

    def has_version(self, name, version):
        """Whether there is such a version, whatever was handed in."""
        return isinstance(name, str) and is_number(version) and version < self.versions(name)

    def version_at(self, name, version):
        """What is known of a version."""
        if not self.has_version(name, version):
            raise NothingThere(name)
        return self.made[name][version]

    def are_inputs(self, value):
        """Whether value is a sequence of triples (alias, artifact, version) that are there."""
        if not is_sequence(value) or not all([self.is_input(each) for each in value]):
            return False
        return len({each[0] for each in value}) == len(value)

    def is_input(self, value):
        """Whether value is a triple (alias, artifact, version) that is there."""
        if not is_sequence(value) or len(value) != 3:
            return False
        return is_word(value[0]) and self.has_version(value[1], value[2])

    def is_left(self, value):
        """Whether value is the token of a source row that is not forgotten."""
        if not is_token(value) or value[0] != self.letter:
            return False
        number = int(value[1:])
        if number > len(self.homes):
            return False
        _, _, _, _, rows, first, _, _ = self.told[self.homes[number - 1]]
        return not is_gone(rows[number - first])

    def put_source(self, name, row_width, rows, person, time):
        """Put in rows, of which some may be gone: a new version of this artifact."""
        check_rows(rows)
        first = len(self.homes) + 1
        if len(self.homes) + len(rows) > MOST_TOKENS:
            raise TooMany("tokens")
        kept = tuple([tuple(row) for row in rows])
        standing = [(row, self.letter + str(first + at)) for at, row in enumerate(kept) if not is_gone(row)]
        table = tagged([row for row, _ in standing], [token for _, token in standing])
        version = self.versions(name)
        self.put_version(name, Version(row_width, table, ((name, version),), (person, time)))
        self.homes.extend([len(self.told)] * len(kept))
        self.told.append(("source", name, version, row_width, kept, first, person, time))
        return version

    def put_version(self, name, version):
        """Put what is known of the next version of this artifact."""
        self.made.setdefault(name, []).append(version)


def rebuilt(name, records):
    """The Ledger with just these records; BadRecord at the first that can not stand where it stands."""
    rebuild = Rebuild(name)
    if not is_sequence(records):
        raise BadRecord(0)
    rebuild.see_forgets(records)
    for at, record in enumerate(records):
        try:
            rebuild.put(record, at)
        except (BadValue, BadProgram, TooMany):
            raise BadRecord(at) from None
    return rebuild.ledger


def _need(holds, at):
    """BadRecord if something that the record with this number needs does not hold."""
    if not holds:
        raise BadRecord(at)


def _is_record(value, kind, many):
    """Whether value is a sequence of so many items, of which the first one is kind."""
    return is_sequence(value) and len(value) == many and value[0] == kind


def _are_told_rows(value, row_width):
    """Whether value tells rows of this width, of which some may be gone."""
    if not is_integer(row_width) or not 1 <= row_width <= MOST_CELLS:
        return False
    if not is_sequence(value) or len(value) == 0:
        return False
    return all([tells_gone(row) or is_row(row) and len(row) == row_width for row in value])


class Rebuild:
    """A ledger that is told records one by one, among them of rows that are gone ahead of being forgotten."""

    def __init__(self, name):
        self.ledger = Ledger(name)
        # Of each token's number the last record that tells that the row is forgotten.
        self.forgets = {}
        # The numbers of the rows that are gone, but forgotten by a later record only.
        self.waiting = {}

    def see_forgets(self, records):
        """See which rows are forgotten by which records, whatever else is wrong with these."""
        for at, record in enumerate(records):
            if is_sequence(record) and len(record) > 1 and record[0] == "forget" and is_integer(record[1]):
                self.forgets[record[1]] = at

    def put(self, record, at):
        """Put the next record, which has this number."""
        if _is_record(record, "source", 8):
            self.put_source(record, at)
        elif _is_record(record, "step", 7):
            self.put_step(record, at)
        else:
            _need(_is_record(record, "forget", 4), at)
            self.put_forget(record, at)

    def put_source(self, record, at):
        """Put rows; those that are gone wait for the record that forgets them."""
        _, name, version, row_width, rows, first, person, time = record
        _need(is_word(name) and _are_told_rows(rows, row_width), at)
        _need(is_integer(version) and version == self.ledger.versions(name), at)
        _need(is_integer(first) and first == len(self.ledger.homes) + 1, at)
        self.ledger.check_maker(person, time, 0)
        for number, row in enumerate(rows, start=first):
            if is_gone(row):
                _need(self.forgets.get(number, at) > at, at)
                self.waiting[number] = True
        self.ledger.put_source(name, row_width, rows, person, time)

    def put_step(self, record, at):
        """Put what a program makes."""
        _, name, version, text, inputs, person, time = record
        _need(is_integer(version), at)
        _need(self.ledger.step(name, read_program(text), inputs, person, time) == version, at)

    def put_forget(self, record, at):
        """Put that a row is forgotten: it must be one that waits for this."""
        _, number, person, time = record
        _need(is_integer(number) and number in self.waiting, at)
        self.ledger.check_maker(person, time, 0)
        del self.waiting[number]
        self.ledger.told.append(("forget", number, person, time))
