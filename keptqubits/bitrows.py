"""Rows of bits of one width, added place by place."""

from keptqubits.bitnumbers import combination, reduced_numbers


def reduced_bits(rows):
    """The reduced table of what the rows make."""
    numbers = reduced_numbers([_number_of(row) for row in rows])
    return tuple([_bits_of(number, len(rows[0])) for number in numbers])


def bit_rank(rows):
    """How many rows the reduced table has."""
    return len(reduced_numbers([_number_of(row) for row in rows]))


def combined(rows, row):
    """The ascending indexes of rows whose sum is row, or None if row is not made."""
    return combination([_number_of(given) for given in rows], _number_of(row))


def kernel_bits(rows, width):
    """The reduced table of all rows of this width that meet each of rows an even number of times."""
    table = reduced_numbers([_number_of(row) for row in rows])
    pivots = [number.bit_length() - 1 for number in table]
    found = []
    for place in range(width):
        if place not in pivots:
            found.append(_kernel_number(table, place))
    return tuple([_bits_of(number, width) for number in reduced_numbers(found)])


def _number_of(row):
    """A row as one integer, its first bit the highest one."""
    number = 0
    for bit in row:
        number = 2 * number + bit
    return number


def _bits_of(number, width):
    return tuple([(number >> place) & 1 for place in reversed(range(width))])


def _kernel_number(table, place):
    """The row that has a 1 at this place without a pivot, and else only at pivots."""
    number = 1 << place
    for row in table:
        if (row >> place) & 1:
            number = number | (1 << (row.bit_length() - 1))
    return number
