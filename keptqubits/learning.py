"""What sums of bits tell of a stored state, found by going back along a program without flags and looks.

A *clue* is a triple (names, odd, held): the sum of the bits of these names is what is told; seen from a line of the
program, it is the sum of the odd bits that are told ahead of it, plus 1 if the held string has the other sign there.
"""

from keptqubits.gateworks import GATES, gate_done
from keptqubits.stringbits import bits_of, crossing, held_of, held_product, second_half, single_bits


def told_strings(code, program):
    """Pairs (held string, names) of independent sums of bits, all that tell the sign of a string of the code's size.

    The strings commute with the code's group; they may be strings of it.
    """
    size = program.size
    clues = [((name,), (name,), (0, 0)) for name in program.bits]
    for line in reversed(program.steps):
        clues = _ahead_of(size, line, clues)
    # nothing is known of the places from the code's size on
    for place in range(code.size, size):
        for bits in single_bits(size, [place]):
            clues = _commuting(size, bits, clues)
    found = [(names, (), _narrowed(size, code.size, held)) for names, _, held in clues]
    for bits in code.group.bits:
        found = _commuting(code.size, bits, found)
    return [(held, names) for names, _, held in found]


def _ahead_of(size, line, clues):
    """The clues ahead of a line."""
    kind = line.kind
    if kind in GATES:
        return [(names, odd, _undone(size, line, held)) for names, odd, held in clues]
    if kind in ("lost", "fresh"):
        one, other = single_bits(size, line.places)
        clues = _commuting(size, other, clues)
        if kind == "lost":
            return _commuting(size, one, clues)
        # Z is sure behind the line, whatever was there ahead of it
        return [(names, odd, _without(size, held, other)) for names, odd, held in clues]
    if kind == "measure":
        told = held_of(line.string)
        return [_unmeasured(size, line.bit, told, clue) for clue in _commuting(size, told[0], clues)]
    if kind == "if":
        bits = bits_of(line.string)
        return [(names, _sum(odd, line.reads) if crossing(size, held[0], [bits]) else odd, held)
                for names, odd, held in clues]
    return clues


def _undone(size, line, held):
    """What a gate makes into a held string; s is undone by three more of it, all others by one."""
    for _ in range(3 if line.kind == "s" else 1):
        held = gate_done(size, line.kind, line.places, held)
    return held


def _without(size, held, bits):
    """A held string that has I or Z at the place of these bits of a Z, with I there."""
    return held_product(size, held, (bits, 0)) if held[0] & bits else held


def _unmeasured(size, name, told, clue):
    """A clue ahead of a line that measures a held string."""
    names, odd, held = clue
    if name in odd:
        return names, _sum(odd, (name,)), held_product(size, held, told)
    return clue


def _commuting(size, bits, clues):
    """All sums of clues whose strings commute with the one of these bits."""
    found = []
    first = None
    for clue in clues:
        if not crossing(size, clue[2][0], [bits]):
            found.append(clue)
        elif first is None:
            first = clue
        else:
            found.append((_sum(first[0], clue[0]), _sum(first[1], clue[1]), held_product(size, first[2], clue[2])))
    return found


def _sum(names, others):
    """The names that stand an odd number of times in both together."""
    both = [*names, *others]
    found = []
    for name in both:
        if both.count(name) & 1 and name not in found:
            found.append(name)
    return tuple(found)


def _narrowed(size, narrower, held):
    """A held string without its places from a size on, where it has I."""
    bits, power = held
    more = size - narrower
    return ((bits >> (size + more)) << narrower) | (second_half(size, bits) >> more), power
