"""Promises about the items of a desk: what their texts tell, and whether they are kept."""

from keptqubits.deskfiles import named_piece
from keptqubits.errors import BadText
from keptqubits.faults import spite
from keptqubits.losses import borne, mender
from keptqubits.names import is_name, number_below
from keptqubits.regions import Inside
from keptqubits.rounds import Forever, forever
from keptqubits.tables import distance, judged

# numbers have at most nine digits
LIMIT = 1000000000

# so many answers are kept at most
MOST_KNOWN = 1000

# what the words behind the first two are, by the second one; lots have their own form
FORMS = {
    "losses": ("number", "errors", "number"), "distance": ("number",), "mends": ("sort",),
    "faults": ("number", "of", "program"), "rounds": ("number", "of", "program"), "lot": (),
}


class Promise:
    """What a promise tells: its second word, its numbers, and the pairs (column, kind) of the names in it."""

    def __init__(self, text):
        if not isinstance(text, str):
            raise BadText(0, 0)
        words = text.split(" ")
        if not is_name(words[0]):
            raise BadText(1, 1)
        if len(words) < 2 or words[1] not in FORMS:
            raise BadText(1, 2)
        self.words = words
        self.what = words[1]
        self.numbers = []
        self.named = [(1, "table" if self.what in ("mends", "faults", "rounds") else "code")]
        forms = FORMS[self.what]
        if self.what == "lot":
            forms = ("number",) * max(1, len(words) - 2)
        for column, form in enumerate(forms, start=3):
            self._take(column, form)
        if len(words) > len(forms) + 2:
            raise BadText(1, len(forms) + 3)

    def has_name(self, name):
        """Whether a name stands in it as that of an item."""
        return name in [self.words[column - 1] for column, _ in self.named]

    def renamed(self, name, new):
        """The text with another name of an item."""
        words = list(self.words)
        for column, _ in self.named:
            if words[column - 1] == name:
                words[column - 1] = new
        return " ".join(words)

    def asked_of(self, pieces):
        """What the items are whose names stand in it."""
        return [named_piece(pieces, self.words[column - 1], (kind,)).value for column, kind in self.named]

    def _take(self, column, form):
        """Read a word of this form."""
        word = self.words[column - 1] if column <= len(self.words) else ""
        if form == "number":
            number = number_below(word, LIMIT)
            if number is None or (self.what == "lot" and self.numbers and number <= self.numbers[-1]):
                raise BadText(1, column)
            self.numbers.append(number)
        elif form in ("sort", "program"):
            if not is_name(word):
                raise BadText(1, column)
            self.named.append((column, form))
        elif word != form:
            raise BadText(1, column)


class Answers:
    """Which witnesses promises have, each of them asked but once for the same items."""

    def __init__(self):
        self.known = {}

    def witness_of(self, text, pieces):
        """None if the items keep a promise, otherwise its witness."""
        promise = Promise(text)
        held = promise.asked_of(pieces)
        key = (promise.what, tuple(promise.numbers), *held)
        if key not in self.known:
            if len(self.known) >= MOST_KNOWN:
                self.known = {}
            self.known[key] = _witness(promise.what, promise.numbers, held)
        return self.known[key]


def _witness(what, numbers, held):
    """The witness against what is promised of some items, or None."""
    if what == "lot":
        told = mender(held[0], tuple(numbers))
        return told if isinstance(told, Inside) else None
    if what == "losses":
        return borne(held[0], numbers[0], numbers[1])
    if what == "distance":
        told = distance(held[0])
        return told if told.number < numbers[0] else None
    code, table = held[0].code, held[0].table
    if what == "mends":
        return judged(code, table, held[1])
    if what == "faults":
        return spite(code, held[1], table, numbers[0])
    told = forever(code, held[1], table, numbers[0])
    return None if isinstance(told, Forever) else told
