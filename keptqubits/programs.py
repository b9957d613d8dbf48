"""Programs: gates, losses, measured strings, and strings that are put on by what bits tell."""

from keptqubits.errors import BadNumber, BadText
from keptqubits.kinds import is_integer
from keptqubits.programlines import Reader, lines_of_text


class Program:
    """A program, told by a text; steps are all its lines but those of tables, tabled tells whether it has these."""

    def __init__(self, size, text):
        if not is_integer(size) or size < 1:
            raise BadNumber("size", size)
        if not isinstance(text, str):
            raise BadText(0, 0)
        told = Reader(size)
        rows = lines_of_text(text)
        for number, row in enumerate(rows, start=1):
            told.take(number, row.split(" "))
        if told.is_open():
            raise BadText(len(rows) + 1, 1)
        self.size = size
        self.text = text
        self.steps = tuple(told.steps)
        self.tabled = bool(told.tables)
        self.bits = tuple(told.bits)
        kinds = [line.kind for line in self.steps]
        self.flagged = "flag" in kinds
        self.steered = "if" in kinds or "look" in kinds
