"""Groups of signed strings that commute."""

from keptqubits.bitnumbers import combination, reduced_numbers, relations
from keptqubits.errors import Anticommute, BadNumber, MinusOne, Unlike
from keptqubits.kinds import is_integer
from keptqubits.stringbits import (bit_tuple, bits_of, crossing, held_of, held_product, letters_of, single_bits,
                                   string_from, string_of)


class Group:
    """All products of some strings; rows is the reduced table, with the signs in the group."""

    def __init__(self, size, strings):
        if not is_integer(size) or size < 1:
            raise BadNumber("size", size)
        for string in strings:
            if string.size != size:
                raise Unlike("size")
        for string in strings:
            if string.phase % 2 == 1:
                raise BadNumber("sign", string)
        given = [held_of(string) for string in strings]
        _check_commuting(size, [bits for bits, _ in given])
        self.size = size
        # the rows once more, for reckoning
        self.held = _reduced_table(size, given)
        self.bits = tuple([bits for bits, _ in self.held])
        self.rows = tuple([string_of(size, held) for held in self.held])
        self.rank = len(self.rows)

    def __eq__(self, other):
        return isinstance(other, Group) and self.size == other.size and self.rows == other.rows

    def sign_of(self, string):
        """1 or -1 if the group has the string or -1 times it, otherwise None."""
        if string.size != self.size:
            raise Unlike("size")
        if string.phase % 2 == 1:
            return None
        bits, power = _lowered(self.size, held_of(string), self.held)
        return None if bits else 1 - power

    def syndrome_of(self, string):
        """For each of the rows 1 if the string anticommutes with it, otherwise 0."""
        if string.size != self.size:
            raise Unlike("size")
        return bit_tuple(crossing(self.size, bits_of(string), self.bits), self.rank)


def commutant(group):
    """The reduced table of all strings that commute with each string of the group."""
    singles = single_bits(group.size, list(range(group.size)))
    found = relations([(crossing(group.size, bits, group.bits), bits) for bits in singles])
    return tuple([string_from(letters_of(group.size, bits), 0) for bits in reduced_numbers(found)])


def joined_group(group, other):
    """The group of all products of strings of both groups."""
    if group.size != other.size:
        raise Unlike("size")
    return Group(group.size, [*group.rows, *other.rows])


def _check_commuting(size, rows):
    for index, bits in enumerate(rows):
        crossed = bit_tuple(crossing(size, bits, rows[:index]), index)
        if 1 in crossed:
            raise Anticommute(crossed.index(1), index)


def _reduced_table(size, given):
    """The reduced table of held strings that are signed and commute, as a tuple of held strings."""
    table = []
    kept = []
    for index, held in enumerate(given):
        bits, power = _lowered(size, held, table)
        if bits:
            table = [_lowered(size, row, [(bits, power)]) for row in table]
            table.append((bits, power))
            kept.append(index)
        elif power:
            raise MinusOne(_indices(given, kept, index))
    return tuple(sorted(table, reverse=True))


def _lowered(size, held, table):
    """A held string times each row of a table that lowers its bits."""
    for row in table:
        if (held[0] ^ row[0]) < held[0]:
            held = held_product(size, held, row)
    return held


def _indices(given, kept, index):
    """The indexes of the kept strings whose product has the bits of the string at the index, and this index."""
    chosen = combination([given[k][0] for k in kept], given[index][0])
    return tuple([kept[k] for k in chosen] + [index])
