"""Running programs: on tagged tables, and on tables of measured values."""

from ledgertrace.cells import rising
from ledgertrace.common import BEYOND_FIGURES
from ledgertrace.errors import TooMany
from ledgertrace.measures import measured_plus, measured_times, measured_zero
from ledgertrace.nodes import made_of, taken
from ledgertrace.programs import parts_of, width_of
from ledgertrace.terms import as_terms, check_figures, check_terms, frozen, product_terms, put


def run(program, tables):
    """The tagged table that the program makes out of the triples (name, width, table)."""
    return _ran(PolyValues(), program, tables)


def run_measured(program, tables, measure, persons):
    """The pairs (row, value) that the program makes out of tables of such pairs."""
    return _ran(MeasuredValues(measure, persons), program, tables)


def node_table(node, parts, tables):
    """The tagged table that one node makes of those of its parts; a take, of the dict tables."""
    values = PolyValues()
    if node[0] == "take":
        return rising(dict(taken(values, tables[node[1]])))
    return rising(dict(made_of(values, node, parts)))


def _ran(values, program, tables):
    width_of(program, [(name, width) for name, width, _ in tables])
    return rising(dict(_made(values, program, {name: table for name, _, table in tables})))


def _made(values, node, tables):
    if node[0] == "take":
        return taken(values, tables[node[1]])
    parts = [_made(values, part, tables) for part in parts_of(node)]
    return made_of(values, node, parts)


class PolyValues:
    """What is done with rows whose values are polynomials."""

    def kept(self, value):
        """The value as it is kept."""
        return frozen(value)

    def is_zero(self, value):
        return len(value) == 0

    def total(self, many):
        """The sum of at least one value; only terms are looked at here."""
        if len(many) == 1:
            return many[0]
        found = {}
        for p in many:
            for monomial, coefficient in p:
                put(found, monomial, coefficient)
            check_terms(found)
        return as_terms(found)

    def meet(self, one, other):
        """Whether the product is not zero."""
        return True

    def product_of(self, one, other):
        """The product of two values; only terms are looked at here."""
        return as_terms(product_terms(one, other))

    def check(self, pairs):
        """TooMany for a value beyond the limits: the terms of all rows are ahead of figures."""
        for _, p in pairs:
            check_terms(p)
        for _, p in pairs:
            check_figures(p)


class MeasuredValues:
    """What is done with rows whose values are those of a measure."""

    def __init__(self, measure, persons):
        self.measure = measure
        self.zero = measured_zero(measure, persons)

    def kept(self, value):
        """The value as it is kept."""
        if self.measure == "seen":
            return tuple(value)
        return value

    def is_zero(self, value):
        return value == self.zero

    def total(self, many):
        """The sum of at least one value."""
        made = many[0]
        for value in many[1:]:
            made = measured_plus(self.measure, made, value)
        return made

    def meet(self, one, other):
        """Whether the product is not zero."""
        return not self.is_zero(measured_times(self.measure, one, other))

    def product_of(self, one, other):
        """The product of two values."""
        return measured_times(self.measure, one, other)

    def check(self, pairs):
        """TooMany for a count of more than 4,000 figures."""
        beyond = BEYOND_FIGURES ** 40
        if self.measure == "count" and any([value >= beyond for _, value in pairs]):
            raise TooMany("figures")
