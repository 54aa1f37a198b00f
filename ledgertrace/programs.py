"""Programs: trees of nodes, the width of what they make, and their text."""

from ledgertrace.cells import (
    GREATEST_CELL, MOST_CELLS, is_cell, is_integer, is_sequence, is_word, tells_integer)
from ledgertrace.errors import BadProgram

MOST_NODES = 20
SIGNS = ("=", "<", "!")
MADE_CELLS = ("sum", "less", "least", "most")

# Of each kind of node: how many of its items are parts (they stand behind the kind), and how
# many items it has.
PARTS = {"take": 0, "keep": 1, "pick": 1, "join": 2, "both": 2, "make": 1}
LENGTHS = {"take": 2, "keep": 3, "pick": 3, "join": 4, "both": 3, "make": 3}


def width_of(program, widths):
    """The width of what the program makes out of tables of these widths."""
    _check_nodes(program)
    return _width(program, dict(widths))


def parts_of(node):
    """The parts of a node."""
    return node[1:1 + PARTS[node[0]]]


def _need(holds):
    """BadProgram if something that a program needs does not hold."""
    if not holds:
        raise BadProgram(0)


def _check_nodes(program):
    # Counting ahead of all else bounds how deep the other functions call themselves,
    # whatever was handed in.
    waiting = [program]
    many = 0
    while waiting:
        node = waiting.pop()
        many += 1
        _need(many <= MOST_NODES and _is_node(node))
        waiting.extend(parts_of(node))


def _is_node(value):
    if not is_sequence(value) or len(value) == 0 or not isinstance(value[0], str):
        return False
    return value[0] in PARTS and len(value) == LENGTHS[value[0]]


def _width(node, widths):
    kind = node[0]
    if kind == "take":
        _need(isinstance(node[1], str) and node[1] in widths)
        return widths[node[1]]
    parts = [_width(part, widths) for part in parts_of(node)]
    if kind == "join":
        _need(_are_pairs(node[3], parts[0], parts[1]) and parts[0] + parts[1] <= MOST_CELLS)
        return parts[0] + parts[1]
    if kind == "both":
        _need(parts[0] == parts[1])
        return parts[0]
    if kind == "keep":
        _need(_is_comparison(node[2], parts[0]))
        return parts[0]
    if kind == "pick":
        _need(_are_columns(node[2], parts[0]))
        return len(node[2])
    _need(_is_making(node[2], parts[0]) and parts[0] < MOST_CELLS)
    return parts[0] + 1


def _is_many(value, many):
    """Whether value is a sequence of so many items."""
    return is_sequence(value) and len(value) == many


def is_column(value, width):
    """Whether value is the number of a column of rows of this width."""
    return is_integer(value) and 0 <= value < width


def _are_columns(value, width):
    if not is_sequence(value) or not 1 <= len(value) <= MOST_CELLS:
        return False
    return all([is_column(column, width) for column in value])


def _are_pairs(value, width, other):
    """Whether value is a sequence of pairs of a column of one width and one of the other width."""
    return is_sequence(value) and all([
        _is_many(pair, 2) and is_column(pair[0], width) and is_column(pair[1], other)
        for pair in value
    ])


def _is_comparison(value, width):
    if not _is_many(value, 3) or value[1] not in SIGNS:
        return False
    return _is_side(value[0], width) and _is_side(value[2], width)


def _is_side(value, width):
    if not _is_many(value, 2):
        return False
    return value[0] == "col" and is_column(value[1], width) or value[0] == "val" and is_cell(value[1])


def _is_making(value, width):
    if not _is_many(value, 3) or value[0] not in MADE_CELLS:
        return False
    return is_column(value[1], width) and is_column(value[2], width)


def program_text(program):
    """The text of a program."""
    if program[0] == "take":
        return "take " + program[1]
    words = [program_text(part) for part in parts_of(program)]
    rest = _rest_words(program)
    if rest:
        words.append(" ".join(rest))
    return program[0] + "(" + ", ".join(words) + ")"


def _rest_words(node):
    """The words that tell what stands in a node behind its parts."""
    kind = node[0]
    if kind == "both":
        return []
    if kind == "join":
        return [f"{i}={j}" for i, j in node[3]]
    if kind == "keep":
        left, sign, right = node[2]
        return [_side_text(left), sign, _side_text(right)]
    return [str(each) for each in node[2]]


def _side_text(side):
    kind, value = side
    if kind == "col":
        return "#" + str(value)
    return str(value)


def read_program(text):
    """The program with this text; BadProgram(0) if there is none."""
    _need(isinstance(text, str))
    reader = Reader(text)
    program = _read_node(reader)
    _need(reader.at == len(text))
    return program


class Reader:
    """A place in the text of a program, and how many nodes began ahead of it."""

    def __init__(self, text):
        self.text = text
        self.at = 0
        self.nodes = 0

    def passes(self, words):
        """Whether these words stand here; if so, the place is behind them then."""
        end = self.at + len(words)
        if self.text[self.at:end] != words:
            return False
        self.at = end
        return True

    def passed_word(self):
        """The word that stands here."""
        end = self.at
        while "a" <= self.text[end:end + 1] <= "z":
            end += 1
        word = self.text[self.at:end]
        _need(is_word(word))
        self.at = end
        return word

    def passed_rest(self):
        """The words up to the closing bracket."""
        end = self.text.find(")", self.at)
        _need(end >= 0)
        words = self.text[self.at:end].split(" ")
        self.at = end + 1
        return words


def _read_node(reader):
    reader.nodes += 1
    _need(reader.nodes <= MOST_NODES)
    if reader.passes("take "):
        return ("take", reader.passed_word())
    for kind in PARTS:
        if PARTS[kind] > 0 and reader.passes(kind + "("):
            return _read_brackets(reader, kind)
    raise BadProgram(0)


def _read_brackets(reader, kind):
    """The node of this kind, read from behind its opening bracket."""
    one = _read_node(reader)
    _need(reader.passes(", "))
    if PARTS[kind] == 1:
        return (kind, one, _read_rest(kind, reader.passed_rest()))
    other = _read_node(reader)
    if kind == "join" and reader.passes(", "):
        return (kind, one, other, tuple([_read_pair(word) for word in reader.passed_rest()]))
    _need(reader.passes(")"))
    if kind == "join":
        return (kind, one, other, ())
    return (kind, one, other)


def _read_rest(kind, words):
    """What stands behind the part in a node with one part."""
    if kind == "pick":
        _need(len(words) <= MOST_CELLS)
        return tuple([_read_column(word) for word in words])
    _need(len(words) == 3)
    first, second, third = words
    if kind == "keep":
        _need(second in SIGNS)
        return (_read_side(first), second, _read_side(third))
    _need(first in MADE_CELLS)
    return (first, _read_column(second), _read_column(third))


def _read_pair(word):
    i, _, j = word.partition("=")
    return (_read_column(i), _read_column(j))


def _read_column(word):
    _need(len(word) == 1 and "0" <= word < str(MOST_CELLS))
    return int(word)


def _read_side(word):
    if word[:1] == "#":
        return ("col", _read_column(word[1:]))
    return ("val", _read_cell(word))


def _read_cell(word):
    if is_word(word):
        return word
    _need(tells_integer(word, len(str(GREATEST_CELL))))
    return int(word)
