"""The lines of a program's text, read one by one."""

from keptqubits.errors import BadText
from keptqubits.names import is_bits, is_name, number_below
from keptqubits.paulis import placed

# what the words behind the first one are, for the lines that always have as many
FORMS = {
    "h": ("place",), "s": ("place",), "x": ("place",), "y": ("place",), "z": ("place",),
    "fresh": ("place",), "lost": ("place",), "wait": ("place",),
    "cx": ("place", "place"), "cz": ("place", "place"), "swap": ("place", "place"),
    "measure": ("measured", "to", "unmeasured"),
    "table": ("untaken",), "row": ("bits", "word"), "flag": ("bit",), "end": (),
}


class Line:
    """A line that is no line of a table: its number in the text, its first word, and what the others tell."""

    def __init__(self, number, kind, told, rows):
        self.number = number
        self.kind = kind
        self.places = tuple([value for form, value in told if form == "place"])
        self.string = None
        self.bit = None
        for form, value in told:
            if form in ("measured", "word"):
                self.string = value
            if form == "unmeasured":
                self.bit = value
        # the bits that it reads, and the pairs (bits, string) of the table that it looks at
        self.reads = tuple([value for form, value in told if form == "bit"])
        self.rows = rows


class Reader:
    """What the lines of a text have told so far."""

    def __init__(self, size):
        self.size = size
        self.tables = {}
        self.table = None
        self.steps = []
        self.bits = []
        self.in_flag = False

    def take(self, number, words):
        """Read the next line."""
        kind = words[0]
        if not self._may_stand(kind):
            raise BadText(number, 1)
        told = []
        for column, form in enumerate(self._forms(words), start=2):
            if column > len(words):
                raise BadText(number, column)
            value = self._value(form, words[column - 1], told)
            if value is None:
                raise BadText(number, column)
            told.append((form, value))
        if len(words) > len(told) + 1:
            raise BadText(number, len(told) + 2)
        self._keep(number, kind, told)

    def is_open(self):
        """Whether a text may not end here."""
        return self.in_flag or self._needs_row()

    def _needs_row(self):
        return self.table is not None and not self.tables[self.table]

    def _may_stand(self, kind):
        """Whether a line with this first word may be the next one."""
        if kind not in FORMS and kind not in ("if", "look"):
            return False
        if self._needs_row() and kind != "row":
            return False
        if kind in ("table", "row") and self.steps:
            return False
        if kind == "row":
            return self.table is not None
        if kind in ("flag", "end"):
            return self.in_flag == (kind == "end")
        return True

    def _forms(self, words):
        """What the words of a line behind the first one should be."""
        kind = words[0]
        if kind == "look":
            rows = self.tables.get(words[1], {}) if len(words) > 1 else {}
            widths = [len(bits) for bits in rows]
            return ("table", *(("bit",) * max(widths, default=0)))
        if kind != "if":
            return FORMS[kind]
        many = 1
        while words[2 * many:2 * many + 1] == ["+"]:
            many += 1
        return ("bit", *(("+", "bit") * (many - 1)), "then", "word")

    def _value(self, form, word, told):
        """What a word of this form tells, behind what the words ahead of it have told; None if it is wrong."""
        if form == "place":
            place = number_below(word, self.size)
            return None if (form, place) in told else place
        if form in ("measured", "word"):
            return self._string(word, form == "measured")
        if form == "bit":
            return word if word in self.bits else None
        if form == "unmeasured":
            return word if is_name(word) and word not in self.bits else None
        if form == "untaken":
            return word if is_name(word) and word not in self.tables else None
        if form == "table":
            return word if word in self.tables else None
        if form == "bits":
            return self._bits(word)
        return word if word == form else None

    def _string(self, word, measured):
        """The string of a word; a measured one must have a letter that is not I."""
        try:
            string = placed(self.size, word)
        except BadText:
            return None
        return None if measured and string.weight == 0 else string

    def _bits(self, word):
        """The bits of a row of the last table."""
        rows = self.tables[self.table]
        if not is_bits(word) or word in rows:
            return None
        others = [bits for bits in rows if len(bits) != len(word)]
        return None if others else word

    def _keep(self, number, kind, told):
        """Keep what a line has told that is not wrong."""
        if kind == "table":
            self.table = told[0][1]
            self.tables[self.table] = {}
            return
        if kind == "row":
            self.tables[self.table][told[0][1]] = told[1][1]
            return
        rows = ()
        if kind == "look":
            table = self.tables[told[0][1]]
            rows = tuple([(bits, table[bits]) for bits in table])
        line = Line(number, kind, told, rows)
        self.steps.append(line)
        if line.bit is not None:
            self.bits.append(line.bit)
        if kind in ("flag", "end"):
            self.in_flag = kind == "flag"


def lines_of_text(text):
    """The lines of a text; a line feed at its end ends the last one."""
    if text == "":
        return []
    if text.endswith("\n"):
        text = text[:-1]
    return text.split("\n")
