"""Faults at any line of a program that is a round: what they leave, and how few of them lose what is stored."""

from keptqubits.errors import BadNumber
from keptqubits.kinds import is_integer
from keptqubits.marks import marked_by_weight
from keptqubits.searches import Search, round_of
from keptqubits.starts import Mending, check_many, check_no_gauge, checked_round, class_pair
from keptqubits.stringbits import bit_tuple, string_from
from keptqubits.tracks import fault_places


class Fault:
    """A string behind a line, and whether the bit that the line tells is flipped."""

    def __init__(self, line, string, flip):
        self.line = line
        self.string = string
        self.flip = flip

    def __eq__(self, other):
        return (isinstance(other, Fault) and self.line == other.line and self.string == other.string
                and self.flip == other.flip)


class Left:
    """What a run with some bits leaves; syndrome and hidden are None if the start is ruined."""

    def __init__(self, bits, syndrome, hidden):
        self.bits = tuple(bits)
        self.syndrome = syndrome
        self.hidden = hidden


class Loss:
    """The fewest faults that lose the stored state, and bits with which they do."""

    def __init__(self, number, faults, bits):
        self.number = number
        self.faults = tuple(faults)
        self.bits = tuple(bits)


class Spite:
    """An error ahead and faults by which the class left is not mended."""

    def __init__(self, error, faults):
        self.error = error
        self.faults = tuple(faults)


def faults_of(program):
    """All faults that may happen, by lines, then by strings in order, first without a flip."""
    found = []
    for line in program.steps:
        flips = (False, True) if line.kind == "measure" else (False,)
        for letters in _letters_at(program.size, fault_places(line)):
            string = string_from(letters, 0)
            found.extend([Fault(line.number, string, flip) for flip in flips if string.weight or flip])
    return tuple(found)


def left(code, program, faults):
    """What is left for each row of bits that can come with some faults, as Left, ascending by bits."""
    told = checked_round(code, program)
    changes = _changes(program, faults)
    pairs = {bits: class_pair(code, mark) for bits, mark in told.ends_from(0, changes)}
    many = len(program.bits)
    return tuple([Left(bit_tuple(bits, many), pairs[bits][0], pairs[bits][1]) for bits in sorted(pairs)])


def least_loss(code, program, table, most):
    """The fewest faults that lose the stored state, as Loss, or None if that takes more than most."""
    told = checked_round(code, program)
    check_many("most", most)
    mending = Mending(code, table)
    for number in range(most + 1):
        link = _lost_from(told, mending, number, [told.start(0, 0, (None, None, 0, 0))])
        if link is not None:
            _, faults, bits = round_of(told.track, link)
            return Loss(number, faults_from(faults), bits)
    return None


def spite(code, program, table, t):
    """None if a round with a table holds in spite of t errors and faults, otherwise a Spite."""
    told = checked_round(code, program)
    check_many("t", t)
    mending = Mending(code, table)
    for number in range(t + 1):
        starts = []
        for mark, (weight, letters) in _lightest_marks(code, number).items():
            starts.append(told.start(mark, weight, (None, None, letters, 0)))
        link = _lost_from(told, mending, number, starts)
        if link is not None:
            (_, _, letters, _), faults, _ = round_of(told.track, link)
            return Spite(string_from(letters, 0), faults_from(faults))
    return None


def greatest_left(code, program, t):
    """The greatest least weight of a class that at most t faults leave; None if some of them leave no class."""
    told = checked_round(code, program)
    check_many("t", t)
    search = Search(told.track, t)
    ends = search.reach([told.start(0, 0, (None, None, 0, 0))])
    marks = {told.left_in(node, state): True for node, state, _, _ in ends}
    if None in marks:
        return None
    weights = _lightest_marks(code, code.size)
    return max([weights[mark][0] for mark in marks])


def weight_of(code, syndrome, hidden):
    """The least weight of a string that leaves a class."""
    check_no_gauge(code)
    mark = 0
    for what, bits, many in (("syndrome", syndrome, code.group.rank), ("hidden", hidden, 2 * code.kept)):
        if not isinstance(bits, tuple) or len(bits) != many:
            raise BadNumber(what, bits)
        for bit in bits:
            if not is_integer(bit) or bit not in (0, 1):
                raise BadNumber(what, bits)
            mark = 2 * mark + bit
    weight, _ = _lightest_marks(code, code.size)[mark]
    return weight


def faults_from(told):
    """Triples (line, string, flip) as faults."""
    return tuple([Fault(line, string, flip) for line, string, flip in told])


def _letters_at(size, places):
    """The letters of all strings with I at all places but these, in order."""
    found = [""]
    for place in range(size):
        found = [letters + letter for letters in found for letter in ("IXYZ" if place in places else "I")]
    return found


def _changes(program, faults):
    """The pairs (line, fault) of some faults, lines counted from 0 without those of tables."""
    lines = {line.number: index for index, line in enumerate(program.steps)}
    found = []
    seen = []
    for k, fault in enumerate(faults):
        if fault.line not in lines or fault.line in seen:
            raise BadNumber("fault", k)
        if not _may_happen(program, program.steps[lines[fault.line]], fault):
            raise BadNumber("fault", k)
        seen.append(fault.line)
        found.append((lines[fault.line], fault))
    return found


def _may_happen(program, line, fault):
    """Whether a fault may happen behind a line."""
    string = fault.string
    if string.size != program.size or string.phase:
        return False
    places = fault_places(line)
    if [place for place, letter in enumerate(string.letters) if letter != "I" and place not in places]:
        return False
    if fault.flip:
        return line.kind == "measure"
    return string.weight > 0


def _lost_from(told, mending, number, starts):
    """A link to a state behind the last line that is not mended, or None; starts are as in a search."""
    for node, state, _, link in Search(told.track, number).reach(starts):
        if not mending.mends(told.left_in(node, state)):
            return link
    return None


def _lightest_marks(code, most):
    """For the mark of each class its least weight, if it is at most so much, and letters of this weight."""
    found = {}
    for weight in range(min(most, code.size) + 1):
        for letters, mark in marked_by_weight(code.marks, 0, weight):
            if mark not in found:
                found[mark] = (weight, letters)
    return found
