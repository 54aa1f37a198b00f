"""Papers: texts that tell how a program made its table, and why a row is there or is not."""

from ledgertrace.cells import cells_text
from ledgertrace.polys import poly_text
from ledgertrace.programs import parts_of, width_of
from ledgertrace.running import node_table
from ledgertrace.why import lies_within, witnesses


def trace_paper(program, tables):
    """The paper that tells what each node of the program makes."""
    width_of(program, [(name, width) for name, width, _ in tables])
    by_name = {name: table for name, _, table in tables}
    made = []
    lines = []
    for node, numbers in numbered_nodes(program):
        lines.append(head_line(len(made), node, numbers))
        table = node_table(node, [made[number] for number in numbers], by_name)
        made.append(table)
        lines.extend([row_line(row, p) for row, p in table])
    return "".join([line + "\n" for line in lines])


def numbered_nodes(program):
    """The nodes, each behind its parts and with the numbers of their nodes."""
    found = []
    _put_nodes(program, found)
    return found


def _put_nodes(node, found):
    """Put the node behind those of its parts; its number."""
    numbers = [_put_nodes(part, found) for part in parts_of(node)]
    found.append((node, numbers))
    return len(found) - 1


def head_line(at, node, numbers):
    """The line that tells that a node begins."""
    return " ".join(["node", str(at), node[0]] + [str(number) for number in numbers])


def row_line(row, p):
    """The line that tells a row and how it came about."""
    return "row " + cells_text(row) + " : " + poly_text(p)


def why_paper(p, tokens):
    """The paper that tells why the row is there with these tokens, or why it is not."""
    held = {token: True for token in tokens}
    if lies_within(p, held):
        enough = [each for each in witnesses(p) if all([token in held for token in each])]
        return why_line(enough[0])
    lacking = [[pair[0] for pair in term[0] if pair[0] not in held] for term in p]
    return "not\n" + "".join(["lacks " + each[0] + "\n" for each in lacking])


def why_line(tokens):
    """The line that tells that these tokens suffice."""
    return " ".join(["why"] + list(tokens)) + "\n"
