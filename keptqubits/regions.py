"""What acts on the stored states within a lot of places, and what may be moved off it."""

from keptqubits.bitnumbers import combination, relations, rest_by
from keptqubits.errors import BadNumber, Outside, Unlike
from keptqubits.lots import check_lot, lot_bits
from keptqubits.stringbits import (bits_of, crossing, held_of, held_product, letters_of, single_bits, string_from,
                                   string_of)


class Region:
    """The number of a lot, and as many strings within it, none of whose products is empty."""

    def __init__(self, number, inside):
        self.number = number
        self.inside = tuple(inside)


class Moved:
    """The hidden strings of all pairs, moved off a lot."""

    def __init__(self, strings):
        self.strings = tuple(strings)


class Inside:
    """A string within a lot that acts on the stored states."""

    def __init__(self, string):
        self.string = string


def region(code, lot):
    """What acts within a lot, as a Region."""
    check_lot(code, lot)
    return _region_of(code.size, lot, code.group.bits, code.gauge_table)


def bare_region(code, lot):
    """What acts within a lot and commutes with all gauge strings, as a Region."""
    check_lot(code, lot)
    return _region_of(code.size, lot, [*code.group.bits, *code.gauge_bits], code.group.bits)


def moved_off(code, lot):
    """The hidden strings moved off a lot, as Moved, or what hinders it, as Inside."""
    acting = region(code, lot)
    if acting.number:
        return Inside(acting.inside[0])
    return Moved([_moved(code, lot, string) for pair in code.hidden for string in pair])


def moved_one(code, lot, string):
    """One string moved off a lot, or None if it may not be."""
    check_lot(code, lot)
    if string.size != code.size:
        raise Unlike("size")
    if string.phase % 2 == 1:
        raise BadNumber("sign", string)
    if code.kind_of(string) not in ("group", "hidden"):
        raise Outside(string)
    return _moved(code, lot, string)


def _region_of(size, lot, barred, empty):
    """The Region of the strings within the lot that commute with what is barred, up to the empty ones."""
    singles = single_bits(size, lot)
    table = list(empty)
    inside = []
    for bits in relations([(crossing(size, single, barred), single) for single in singles]):
        rest = rest_by(bits, table)
        if rest:
            table.append(rest)
            inside.append(string_from(letters_of(size, bits), 0))
    return Region(len(inside), inside)


def _moved(code, lot, string):
    """The string times a product of strings of the group that has the same letters on the lot; None if none has."""
    inside = lot_bits(code.size, lot)
    chosen = combination([bits & inside for bits in code.group.bits], bits_of(string) & inside)
    if chosen is None:
        return None
    held = held_of(string)
    for index in chosen:
        held = held_product(code.size, held, code.group.held[index])
    return string_of(code.size, held)
