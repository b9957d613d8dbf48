"""Polynomials with bits as coefficients, told as texts with the lowest power first."""

from keptqubits.errors import BadNumber
from keptqubits.kinds import is_integer
from keptqubits.polynumbers import (common_divisor, degree, poly_times, polynomial_text, quotient_rest, read_both,
                                    read_polynomial, rest_of_power)


def sum_of(a, b):
    """a + b."""
    one, other = read_both(a, b)
    return polynomial_text(one ^ other)


def product_of(a, b):
    """a times b."""
    one, other = read_both(a, b)
    return polynomial_text(poly_times(one, other))


def divided(a, b):
    """The tuple (quotient, rest) of a divided by b."""
    one, other = read_both(a, b)
    if other == 0:
        raise BadNumber("divisor", "0")
    quotient, rest = quotient_rest(one, other)
    return polynomial_text(quotient), polynomial_text(rest)


def divisor_of(a, b):
    """The greatest common divisor of a and b."""
    one, other = read_both(a, b)
    return polynomial_text(common_divisor(one, other))


def power_rest(length, a):
    """The rest of x ^ length when divided by a."""
    divisor = read_polynomial(a)
    if not is_integer(length) or not 0 <= length <= 10 ** 30:
        raise BadNumber("length", length)
    if divisor == 0:
        raise BadNumber("divisor", "0")
    return polynomial_text(rest_of_power(length, divisor))


def factors_of(a):
    """The tuple of the pairs (factor, times) of all factors that are no products."""
    left = read_polynomial(a)
    if left == 0:
        raise BadNumber("polynomial", "0")
    found = []
    factor = 2
    # what is left is no product, once a factor of it could be no more than half as long
    while 2 * degree(factor) <= degree(left):
        times, left = _taken_out(left, factor)
        if times:
            found.append((polynomial_text(factor), times))
        # behind x itself, what has no 1 in front can be passed over: x divides it
        factor += 1 if factor == 2 else 2
    if left != 1:
        found.append((polynomial_text(left), 1))
    return tuple(sorted(found, key=lambda pair: (len(pair[0]), pair[0])))


def _taken_out(number, factor):
    """How often the factor divides the number, and what is left without it."""
    times = 0
    quotient, rest = quotient_rest(number, factor)
    while rest == 0:
        times += 1
        number = quotient
        quotient, rest = quotient_rest(number, factor)
    return times, number
