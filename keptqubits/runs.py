"""Runs of programs: all bits that can come, whether two programs do the same, and what bits tell."""

from keptqubits.bitnumbers import rest_by
from keptqubits.errors import HasFlag, HasLook, Unlike
from keptqubits.groups import Group
from keptqubits.learning import told_strings
from keptqubits.slots import reduced_in_slots
from keptqubits.stringbits import bit_tuple, letters_of, parity, single_bits, string_from, string_of
from keptqubits.tracks import Track, walk


class Run:
    """A row of bits that can come, how many coins fell, and the standing behind it."""

    def __init__(self, bits, halves, group):
        self.bits = tuple(bits)
        self.halves = halves
        self.group = group


class Difference:
    """A row of bits for which two programs do not do the same."""

    def __init__(self, bits):
        self.bits = tuple(bits)


def runs(program, group):
    """The runs from a standing, one for each row of bits that can come, in ascending order of these."""
    if group.size < program.size:
        raise Unlike("size")
    ends = _ends(program, group.size, group.held)
    many = len(program.bits)
    return tuple([Run(bit_tuple(told, many), ends[told][0], _group_of(group.size, ends[told]))
                  for told in sorted(ends)])


def alike(program, other):
    """None if two programs are alike, otherwise a Difference."""
    if program.size != other.size:
        raise Unlike("size")
    if sorted(program.bits) != sorted(other.bits):
        raise Unlike("bits")
    twins = _twins(program.size)
    ends = _ends(program, 2 * program.size, twins)
    others = {}
    for told, end in _ends(other, 2 * other.size, twins).items():
        others[_reordered(program.bits, other.bits, told)] = end
    for told in sorted(set([*ends, *others])):
        if ends.get(told) != others.get(told):
            return Difference(bit_tuple(told, len(program.bits)))
    return None


def learnt(code, program):
    """What a program learns of what is stored: pairs (string, names of the bits that tell it)."""
    if program.size < code.size:
        raise Unlike("size")
    if program.flagged:
        raise HasFlag()
    if "look" in [line.kind for line in program.steps]:
        raise HasLook()
    table = list(code.gauge_table)
    found = []
    for held, names in told_strings(code, program):
        rest = rest_by(held[0], table)
        if rest:
            table.append(rest)
            found.append((string_of(code.size, held), tuple([name for name in program.bits if name in names])))
    return tuple(found)


def _ends(program, size, rows):
    """For the bits of each run, as a number, the triple (halves, letters of the rows behind it, their signs)."""
    track = Track(program, size, rows)
    reduced = {}
    found = {}
    for node, state, halves in walk(track, 0, []):
        if node not in reduced:
            reduced[node] = [(letters_of(size, held[0]), slots, sign)
                             for held, slots, sign in reduced_in_slots(size, node.rows)]
        signs = state >> track.many
        letters = tuple([row for row, _, _ in reduced[node]])
        turned = tuple([parity(signs & slots) ^ sign for _, slots, sign in reduced[node]])
        found[state ^ (signs << track.many)] = (halves, letters, turned)
    return found


def _group_of(size, end):
    _, letters, turned = end
    return Group(size, [string_from(row, 2 * sign) for row, sign in zip(letters, turned)])


def _twins(size):
    """The standing of the twins, held: X and Z at each place and at its twin."""
    found = []
    for place in range(size):
        one, other = single_bits(2 * size, [place])
        twin_one, twin_other = single_bits(2 * size, [size + place])
        found.append((one | twin_one, 0))
        found.append((other | twin_other, 0))
    return found


def _reordered(names, other_names, told):
    """Bits that are told as a number for the other names, in the order of the names."""
    bits = bit_tuple(told, len(other_names))
    number = 0
    for name in names:
        number = 2 * number + bits[other_names.index(name)]
    return number
