"""Rounds of a code: programs that are run from the code's start, with a twin for each hidden pair.

A class is told by its mark: the bits of the syndrome, and behind them the hidden bits, as one number (see marks).
"""

from keptqubits.errors import BadGauge, BadNumber, NotARound, Unlike
from keptqubits.kinds import is_integer
from keptqubits.slots import told_by_slots
from keptqubits.stringbits import bit_tuple, held_of, parity, single_bits
from keptqubits.tables import mended_mark
from keptqubits.tracks import Track, walk, widened

# callers ask for at most so many faults
MOST_FAULTS = 3


class Round:
    """A program and a code, with the track from the start."""

    def __init__(self, code, program):
        self.code = code
        self.program = program
        self.rows = _start_rows(code, program.size)
        # so the state of a class is its mark, ahead of the bits that are told
        self.track = Track(program, program.size + code.kept, list(reversed(self.rows)))
        self.told = {}

    def state_of(self, mark):
        """The state in which a run begins with a class."""
        return mark << self.track.many

    def start(self, mark, cost, link):
        """A class as a start of a search."""
        return self.track.first, self.state_of(mark), cost, link

    def left_in(self, node, state):
        """The mark of the class that is left in a state behind the last line; None where there is none."""
        if node not in self.told:
            self.told[node] = [told_by_slots(self.track.size, row, node.rows) for row in self.rows]
        if None in self.told[node]:
            return None
        signs = state >> self.track.many
        mark = 0
        for slots, sign in self.told[node]:
            mark = 2 * mark + (parity(signs & slots) ^ sign)
        return mark

    def bits_in(self, state):
        """The bits that are told in a state, as a number."""
        return state & ((1 << self.track.many) - 1)

    def ends_from(self, mark, changes):
        """The pairs (bits, mark) of all runs from a class, both as numbers, with some faults as in walk."""
        found = walk(self.track, self.state_of(mark), changes)
        return [(self.bits_in(state), self.left_in(node, state)) for node, state, _ in found]

    def is_round(self):
        """Whether each row of the start stands behind each run from it, with either sign."""
        return not [mark for _, mark in self.ends_from(0, []) if mark is None]


class Mending:
    """Which classes a table mends."""

    def __init__(self, code, table):
        self.code = code
        self.table = {syndrome: table[syndrome] for syndrome in table}
        self.known = {}

    def mends(self, mark):
        """Whether a class is mended; there is none if the mark is None."""
        if mark is None:
            return False
        if mark not in self.known:
            self.known[mark] = mended_mark(self.code, self.table, mark >> (2 * self.code.kept)) == mark
        return self.known[mark]


def check_no_gauge(code):
    """Refuse a code with gauge strings."""
    if code.gauge:
        raise BadGauge(0)


def check_places(code, program):
    """Refuse a program with fewer places than the code."""
    if program.size < code.size:
        raise Unlike("size")


def made_round(code, program):
    """The Round of a program, refused if it is none."""
    told = Round(code, program)
    if not told.is_round():
        raise NotARound()
    return told


def checked_round(code, program):
    """The Round of a program, behind all checks that are shared."""
    check_no_gauge(code)
    check_places(code, program)
    return made_round(code, program)


def check_many(what, number):
    """Refuse what is no number of faults."""
    if not is_integer(number) or not 0 <= number <= MOST_FAULTS:
        raise BadNumber(what, number)


def class_pair(code, mark):
    """A class as the pair (syndrome, hidden)."""
    if mark is None:
        return None, None
    return bit_tuple(mark >> (2 * code.kept), code.group.rank), bit_tuple(mark, 2 * code.kept)


def _start_rows(code, size):
    """The strings of the start, held, in the order of the bits of a mark."""
    wider = size + code.kept
    found = [_row(string, wider, 0) for string in code.group.rows]
    for index, (one, other) in enumerate(code.hidden):
        twin_x, twin_z = single_bits(wider, [size + index])
        found.append(_row(other, wider, twin_z))
        found.append(_row(one, wider, twin_x))
    return found


def _row(string, wider, twin):
    bits, power = held_of(string)
    return widened(bits, string.size, wider) | twin, power
