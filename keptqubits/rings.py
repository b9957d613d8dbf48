"""Codes of two rings of places, told by two bit polynomials and a length."""

from keptqubits.bitpolys import factors_of
from keptqubits.codes import Code
from keptqubits.errors import BadNumber
from keptqubits.kinds import is_integer
from keptqubits.polynumbers import (common_divisor, degree, polynomial_text, read_both, read_polynomial,
                                    rest_of_power)
from keptqubits.stringbits import string_from


class Ring:
    """What the ring codes of all lengths keep; parts is a tuple of triples (order, times, degree)."""

    def __init__(self, parts):
        self.parts = tuple([tuple(part) for part in parts])

    def kept_at(self, length):
        """The number of bits that the ring code of this length keeps."""
        _check_length(length)
        # the greatest power of two that divides the length
        power = length & -length
        return 2 * sum([share * min(times, power) for order, times, share in self.parts if length % order == 0])


def ring_code(a, b, length):
    """The ring code of two polynomials."""
    read_both(a, b)
    _check_length(length)
    ones, others = _powers(a), _powers(b)
    strings = []
    for turn in range(length):
        ahead = [power + turn for power in ones]
        strings.append(_ring_string(length, "X", ahead, [power + turn for power in others]))
        back = [turn - power for power in others]
        strings.append(_ring_string(length, "Z", back, [turn - power for power in ones]))
    return Code(2 * length, strings)


def ring_kept(a, b, length):
    """The number of bits that the ring code keeps."""
    one, other = read_both(a, b)
    _check_length(length)
    common = common_divisor(one, other)
    if common == 0:
        return 2 * length
    # 1 + x ^ length, as far as the common divisor tells it from others
    return 2 * degree(common_divisor(common, rest_of_power(length, common) ^ 1))


def ring_parts(a, b):
    """The Ring that tells what the ring codes of all lengths keep."""
    one, other = read_both(a, b)
    common = common_divisor(one, other)
    if common == 0:
        raise BadNumber("polynomials", 0)
    degrees = {}
    for text, times in factors_of(polynomial_text(common)):
        # x divides no 1 + x ^ length
        if text != "01":
            factor = read_polynomial(text)
            key = (_order_of(factor), times)
            degrees[key] = degrees.get(key, 0) + degree(factor)
    return Ring(sorted([(order, times, share) for (order, times), share in degrees.items()]))


def _check_length(length):
    if not is_integer(length) or length < 1:
        raise BadNumber("length", length)


def _powers(text):
    return [power for power, bit in enumerate(text) if bit == "1"]


def _ring_string(length, letter, first, second):
    """The string with this letter where the places of both rings, modulo the length, are met an odd number of times."""
    letters = ["I"] * (2 * length)
    for place in [place % length for place in first] + [length + place % length for place in second]:
        letters[place] = letter if letters[place] == "I" else "I"
    return string_from("".join(letters), 0)


def _order_of(factor):
    """The least length from 1 on for which an irreducible factor other than x divides 1 + x ^ length."""
    # the powers of x are some of the rests other than 0, so their number divides the number of these
    order = (1 << degree(factor)) - 1
    for prime in _primes_in(order):
        while order % prime == 0 and rest_of_power(order // prime, factor) == 1:
            order = order // prime
    return order


def _primes_in(number):
    """The primes that divide a number."""
    found = []
    divisor = 2
    while divisor * divisor <= number:
        if number % divisor == 0:
            found.append(divisor)
            while number % divisor == 0:
                number = number // divisor
        divisor += 1
    if number > 1:
        found.append(number)
    return found
