"""Exact fractions, as pairs (top, bottom) in lowest terms with bottom above 0."""

from math import gcd

from keptqubits.errors import BadNumber
from keptqubits.kinds import is_integer


def ratio_of(number):
    """The number as a ratio."""
    if is_integer(number):
        return _lowest(number, 1)
    if not _is_pair(number):
        raise BadNumber("ratio", number)
    top, bottom = number
    return _lowest(top, bottom)


def ratio_sum(one, other):
    """one + other."""
    top, bottom = ratio_of(one)
    other_top, other_bottom = ratio_of(other)
    return _lowest(top * other_bottom + other_top * bottom, bottom * other_bottom)


def ratio_gap(one, other):
    """one - other."""
    top, bottom = ratio_of(one)
    other_top, other_bottom = ratio_of(other)
    return _lowest(top * other_bottom - other_top * bottom, bottom * other_bottom)


def ratio_product(one, other):
    """one times other."""
    top, bottom = ratio_of(one)
    other_top, other_bottom = ratio_of(other)
    return _lowest(top * other_top, bottom * other_bottom)


def ratio_share(one, other):
    """one divided by other."""
    top, bottom = ratio_of(one)
    other_top, other_bottom = ratio_of(other)
    if other_top == 0:
        raise BadNumber("divisor", other)
    return _lowest(top * other_bottom, bottom * other_top)


def is_less(one, other):
    """Whether one is below other."""
    top, bottom = ratio_of(one)
    other_top, other_bottom = ratio_of(other)
    return top * other_bottom < other_top * bottom


def _is_pair(value):
    """Whether a value is a tuple of two integers, the second one above 0."""
    if not isinstance(value, tuple) or len(value) != 2:
        return False
    top, bottom = value
    return is_integer(top) and is_integer(bottom) and bottom > 0


def _lowest(top, bottom):
    """The ratio of two integers, the second one not 0."""
    common = gcd(top, bottom)
    if bottom < 0:
        common = -common
    return top // common, bottom // common
