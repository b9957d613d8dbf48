"""Counts of strings by their weight, and codes that such counts forbid."""

from math import comb

from keptqubits.errors import BadNumber
from keptqubits.kinds import is_integer, is_number
from keptqubits.linear import Nothing, greatest
from keptqubits.ratios import ratio_gap, ratio_of
from keptqubits.wholes import common_bottom, whole


class Forbidden:
    """Prices that show that there is no code."""

    def __init__(self, prices):
        self.prices = tuple(prices)


def counts(group):
    """How many strings of each weight a group has."""
    found = [0] * (group.size + 1)
    for bits in _all_sums(group.bits):
        found[_weight(group.size, bits)] += 1
    return tuple(found)


def commuting_counts(group):
    """How many strings of each weight commute with all of a group."""
    return tuple([top for top, _ in turned_counts(group.size, group.rank, counts(group))])


def turned_counts(size, rank, row):
    """The counts of what commutes with the strings that a row counts."""
    _check_counts(size, rank, row)
    return _turned(size, rank, row, 1)


def shadow_counts(size, rank, row):
    """The counts of the shadow of the strings that a row counts."""
    _check_counts(size, rank, row)
    return _turned(size, rank, row, -1)


def forbidden(size, kept, distance):
    """A Forbidden if no counts fit a code of this size that keeps so much with this distance, otherwise None."""
    if not is_integer(size) or size < 1:
        raise BadNumber("size", size)
    for what, number in (("kept", kept), ("distance", distance)):
        if not is_integer(number) or not 1 <= number <= size:
            raise BadNumber(what, number)
    equal = _equal_rows(size, kept, distance)
    least = _least_rows(size, kept, distance)
    rows = []
    right = []
    # greatest asks for sums that are at most so much; what must be equal is at most and at least so much
    for row, number in [*equal, *least]:
        rows.append([-value for value in row])
        right.append(-number)
    for row, number in equal:
        rows.append(row)
        right.append(number)
    told = greatest(rows, right, [0] * (size + 1))
    if not isinstance(told, Nothing):
        return None
    return Forbidden(_prices(told.weights, len(equal), len(least), 1 << (size - kept)))


def _check_counts(size, rank, row):
    if not is_integer(size) or size < 1:
        raise BadNumber("size", size)
    if not is_integer(rank) or not 0 <= rank <= 2 * size:
        raise BadNumber("rank", rank)
    if not isinstance(row, (tuple, list)) or len(row) != size + 1 or [value for value in row if not is_number(value)]:
        raise BadNumber("counts", row)


def _all_sums(rows):
    found = [0]
    for row in rows:
        found = found + [number ^ row for number in found]
    return found


def _weight(size, bits):
    """How many letters with these bits are not I."""
    either = (bits >> size) | (bits & ((1 << size) - 1))
    return f"{either:b}".count("1")


def _multiple(size, weight, other):
    """K(weight, other): over all strings of a weight, those that commute with one of another weight less the others."""
    total = 0
    threes = 1
    # s letters stand at places of the other one; the rest are any letters elsewhere
    for s in reversed(range(weight + 1)):
        part = threes * comb(other, s) * comb(size - other, weight - s)
        total += -part if s & 1 else part
        threes = threes * 3
    return total


def _turned(size, rank, row, sign):
    """The turned row; with the sign -1 every other number counts with the other sign."""
    ratios = [ratio_of(value) for value in row]
    bottom = common_bottom(ratios) << rank
    numbers = [-number if sign < 0 and weight & 1 else number for weight, number in enumerate(whole(ratios))]
    found = []
    for weight in range(size + 1):
        total = sum([_multiple(size, weight, other) * number for other, number in enumerate(numbers)])
        found.append(ratio_of((total, bottom)))
    return tuple(found)


def _gap_row(size, weight, share):
    """What stands for share * (B - A) at a weight."""
    return [_multiple(size, weight, other) - (share if other == weight else 0) for other in range(size + 1)]


def _equal_rows(size, kept, distance):
    """The rows that must be equal to a number, as pairs (row, number); those of B - A are times 2 ** (size - kept)."""
    share = 1 << (size - kept)
    found = [([1] + [0] * size, 1), ([1] * (size + 1), share)]
    return found + [(_gap_row(size, weight, share), 0) for weight in range(1, distance)]


def _least_rows(size, kept, distance):
    """The rows that must be at least a number, in the same way."""
    share = 1 << (size - kept)
    found = [(_gap_row(size, weight, share), 0) for weight in range(distance, size + 1)]
    for weight in range(size + 1):
        row = [_multiple(size, weight, other) for other in range(size + 1)]
        found.append(([-value if other & 1 else value for other, value in enumerate(row)], 0))
    return found


def _prices(weights, equal, least, share):
    """The prices of the rows as they are told, from weights of the rows that were asked."""
    found = list(weights[:equal + least])
    for index in range(equal):
        found[index] = ratio_gap(found[index], weights[equal + least + index])
    # the rows behind the first two stand for what was asked divided by the share
    return [(price if index < 2 else ratio_of((price[0] * share, price[1]))) for index, price in enumerate(found)]
