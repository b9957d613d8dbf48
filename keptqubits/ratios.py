"""Exact fractions, as pairs (top, bottom) in lowest terms with bottom above 0."""

from math import gcd

from keptqubits.errors import BadNumber
from keptqubits.kinds import is_integer, is_number


def ratio_of(number):
    """The number as a ratio."""
    if not is_number(number):
        raise BadNumber("ratio", number)
    if is_integer(number):
        return _lowest(number, 1)
    top, bottom = number
    return _lowest(top, bottom)


def ratio_sum(one, other):
    """one + other."""
    top, bottom = ratio_of(one)
    other_top, other_bottom = ratio_of(other)
    return _lowest(top * other_bottom + other_top * bottom, bottom * other_bottom)


def ratio_gap(one, other):
    """one - other."""
    top, bottom = ratio_of(one)
    other_top, other_bottom = ratio_of(other)
    return _lowest(top * other_bottom - other_top * bottom, bottom * other_bottom)


def ratio_product(one, other):
    """one times other."""
    top, bottom = ratio_of(one)
    other_top, other_bottom = ratio_of(other)
    return _lowest(top * other_top, bottom * other_bottom)


def ratio_share(one, other):
    """one divided by other."""
    top, bottom = ratio_of(one)
    other_top, other_bottom = ratio_of(other)
    if other_top == 0:
        raise BadNumber("divisor", other)
    return _lowest(top * other_bottom, bottom * other_top)


def is_less(one, other):
    """Whether one is below other."""
    top, bottom = ratio_of(one)
    other_top, other_bottom = ratio_of(other)
    return top * other_bottom < other_top * bottom


def _lowest(top, bottom):
    """The ratio of two integers, the second one not 0."""
    common = gcd(top, bottom)
    if bottom < 0:
        common = -common
    return top // common, bottom // common
