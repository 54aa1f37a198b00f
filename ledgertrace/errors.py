"""The errors of the package: each kind of failure has a class of its own."""


class TraceError(Exception):
    """The base class of all errors of this package."""


class BadValue(TraceError):
    """A wrong argument; at is its place among the arguments, from 0 on."""

    def __init__(self, at):
        self.at = at


class BadProgram(TraceError):
    """What is no program, or none that fits; at tells where."""

    def __init__(self, at):
        self.at = at


class BadRecord(TraceError):
    """A record that can not stand where it stands; at is its number."""

    def __init__(self, at):
        self.at = at


class BadPaper(TraceError):
    """A paper that does not hold; at is the number of the first wrong line."""

    def __init__(self, at):
        self.at = at


class BadLine(TraceError):
    """A line that is none; at is its number."""

    def __init__(self, at):
        self.at = at


class NothingThere(TraceError):
    """Something that was asked for and is not there; name is what was asked for."""

    def __init__(self, name):
        self.name = name


class TooMany(TraceError):
    """More of something than a limit lets; word tells of what."""

    def __init__(self, word):
        self.word = word


class Unlike(TraceError):
    """Two things that do not go together; name tells by which of their parts."""

    def __init__(self, name):
        self.name = name
