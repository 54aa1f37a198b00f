"""Checking papers: whether they are right, by what they tell and the sources alone."""

from ledgertrace.errors import BadPaper, TooMany
from ledgertrace.programs import width_of
from ledgertrace.running import node_table
from ledgertrace.traces import head_line, numbered_nodes, row_line, why_line


def trace_holds(program, tables, paper):
    """The tagged table of the last node; BadPaper at the first line that is not as it must be."""
    width_of(program, [(name, width) for name, width, _ in tables])
    by_name = {name: table for name, _, table in tables}
    reader = PaperReader(paper)
    made = []
    for node, numbers in numbered_nodes(program):
        reader.pass_line(head_line(len(made), node, numbers))
        # The lines of the parts are right here, so what they tell is what was made of them.
        table = _table_at(reader, node, [made[number] for number in numbers], by_name)
        for row, p in table:
            reader.pass_line(row_line(row, p))
        made.append(table)
    reader.pass_end()
    return made[-1]


def _table_at(reader, node, parts, by_name):
    """What the node makes; no line can tell it if that is too many."""
    try:
        return node_table(node, parts, by_name)
    except TooMany:
        raise BadPaper(reader.at) from None


class PaperReader:
    """A place in a paper: the number of the next line."""

    def __init__(self, paper):
        # Behind the last line feed stands what is no whole line.
        *lines, rest = paper.split("\n") if isinstance(paper, str) else [""]
        self.lines = lines
        self.rest = rest
        self.at = 0

    def pass_line(self, line):
        """Go behind the next line, which must be this one."""
        if self.at == len(self.lines) or self.lines[self.at] != line:
            raise BadPaper(self.at)
        self.at += 1

    def pass_end(self):
        """The paper must end here."""
        if self.at < len(self.lines) or self.rest != "":
            raise BadPaper(self.at)


def why_holds(p, tokens, paper):
    """Whether the row is there with these tokens, as a right paper tells."""
    held = {token: True for token in tokens}
    if not isinstance(paper, str):
        raise BadPaper(0)
    if _tells_why(p, held, paper):
        return True
    if _tells_not(p, held, paper):
        return False
    raise BadPaper(0)


def _tells_why(p, held, paper):
    """Whether the paper tells all tokens of some monomial, and these are held."""
    for monomial, _ in p:
        tokens = [pair[0] for pair in monomial]
        if paper == why_line(tokens) and all([token in held for token in tokens]):
            return True
    return False


def _tells_not(p, held, paper):
    """Whether the paper tells for each monomial a token of it that is not held."""
    lines = paper.split("\n")
    if len(lines) != len(p) + 2 or lines[0] != "not" or lines[-1] != "":
        return False
    for (monomial, _), line in zip(p, lines[1:]):
        if line not in ["lacks " + pair[0] for pair in monomial if pair[0] not in held]:
            return False
    return True
