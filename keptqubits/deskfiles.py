"""Files of a desk: texts of codes, sorts, tables and programs, each one a head line and a body."""

from keptqubits.codes import Code
from keptqubits.errors import BadText, NoName
from keptqubits.names import is_bits, is_name, number_below
from keptqubits.paulis import Pauli
from keptqubits.programs import Program
from keptqubits.sorts import Sort

# in this order the items of a file are read
KINDS = ("code", "sort", "table", "program")
MOST_PLACES = 24


class Piece:
    """An item: its kind and name, the last word of its head line, and the lines of its body.

    at is the number of the head line in the text that it comes from; the value is None until the body is read.
    """

    def __init__(self, kind, name, last, body, at):
        self.kind = kind
        self.name = name
        self.last = last
        self.body = tuple(body)
        self.at = at
        self.value = None

    def unread(self, body):
        """The same item with another body, to be read by itself."""
        return Piece(self.kind, self.name, self.last, body, 0)

    def renamed(self, name, last):
        """The same item with another name and another last word of its head line."""
        found = Piece(self.kind, name, last, self.body, 0)
        found.value = self.value
        return found


class Row:
    """A table as an item: what it has for syndromes, and its code."""

    def __init__(self, table, code):
        self.table = table
        self.code = code


def lines_of_file(text):
    """The lines of a text; a line feed at its end begins no further line."""
    lines = text.split("\n")
    return lines[:-1] if lines[-1] == "" else lines


def cut_file(text):
    """The items of a file, unread."""
    if not isinstance(text, str):
        raise BadText(0, 0)
    heads = []
    bodies = []
    names = []
    for number, line in enumerate(lines_of_file(text), start=1):
        words = line.split(" ")
        if words[0] == "item":
            kind, name, last = _read_head(number, words, names)
            heads.append((number, kind, name, last))
            bodies.append([])
            names.append(name)
        elif not heads:
            raise BadText(number, 1)
        else:
            bodies[-1].append(line)
    return [Piece(kind, name, last, body, number) for (number, kind, name, last), body in zip(heads, bodies)]


def read_all(pieces):
    """Read those of the items that are unread."""
    for kind in KINDS:
        for piece in pieces:
            if piece.kind == kind and piece.value is None:
                piece.value = _read_body(pieces, piece)


def file_text(pieces):
    """The text of a file."""
    rows = []
    for piece in pieces:
        rows.append(f"item {piece.kind} {piece.name} {piece.last}")
        rows.extend(piece.body)
    return _with_feeds(rows)


def named_piece(pieces, name, kinds):
    """The item with a name and of one of these kinds."""
    found = [piece for piece in pieces if piece.name == name and piece.kind in kinds]
    if not found:
        raise NoName(name)
    return found[0]


def _with_feeds(rows):
    return "".join([row + "\n" for row in rows])


def _read_head(number, words, names):
    """The kind, the name and the last word of a head line."""
    if len(words) < 2 or words[1] not in KINDS:
        raise BadText(number, 2)
    if len(words) < 3 or not is_name(words[2]) or words[2] in names:
        raise BadText(number, 3)
    if len(words) < 4:
        raise BadText(number, 4)
    right = is_name(words[3]) if words[1] == "table" else number_below(words[3], MOST_PLACES + 1)
    if not right:
        raise BadText(number, 4)
    if len(words) > 4:
        raise BadText(number, 5)
    return words[1], words[2], words[3]


def _read_body(pieces, piece):
    if piece.kind == "code":
        return _read_code(piece)
    if piece.kind == "table":
        return _read_table(piece, named_piece(pieces, piece.last, ("code",)).value)
    try:
        if piece.kind == "sort":
            return Sort(int(piece.last), _with_feeds(piece.body))
        return Program(int(piece.last), _with_feeds(piece.body))
    except BadText as error:
        raise BadText(piece.at + error.line, error.column)


def _read_code(piece):
    size = int(piece.last)
    told = {"string": [], "gauge": [], "hidden": []}
    for number, line in enumerate(piece.body, start=piece.at + 1):
        words = line.split(" ")
        if words[0] not in told:
            raise BadText(number, 1)
        many = 2 if words[0] == "hidden" else 1
        strings = [_read_string(number, words, column, size) for column in range(2, many + 2)]
        _check_end(number, words, many + 1)
        told[words[0]].append(tuple(strings) if many == 2 else strings[0])
    return Code(size, told["string"], told["gauge"], told["hidden"] if told["hidden"] else None)


def _read_table(piece, code):
    table = {}
    for number, line in enumerate(piece.body, start=piece.at + 1):
        words = line.split(" ")
        if words[0] != "row":
            raise BadText(number, 1)
        bits = _read_bits(words, code.group.rank)
        if bits is None or bits in table:
            raise BadText(number, 2)
        table[bits] = _read_string(number, words, 3, code.size)
        _check_end(number, words, 3)
    return Row(table, code)


def _read_bits(words, many):
    """The bits of the second word of a row, None if it is missing or wrong."""
    if len(words) < 2:
        return None
    if many == 0:
        return () if words[1] == "-" else None
    if not is_bits(words[1]) or len(words[1]) != many:
        return None
    return tuple([int(sign) for sign in words[1]])


def _read_string(number, words, column, size):
    """The signed string of a word, which must have so many letters."""
    try:
        string = Pauli(words[column - 1]) if column <= len(words) else None
    except BadText:
        string = None
    if string is None or string.size != size or string.phase & 1:
        raise BadText(number, column)
    return string


def _check_end(number, words, many):
    """Refuse a line with more than so many words."""
    if len(words) > many:
        raise BadText(number, many + 1)
