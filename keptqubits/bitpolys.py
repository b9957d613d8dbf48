"""Polynomials with bits as coefficients, told as texts with the lowest power first."""

from keptqubits.errors import BadNumber, BadText
from keptqubits.kinds import is_integer


def sum_of(a, b):
    """a + b."""
    one, other = _read_both(a, b)
    return _text_of(one ^ other)


def product_of(a, b):
    """a times b."""
    one, other = _read_both(a, b)
    return _text_of(_times(one, other))


def divided(a, b):
    """The tuple (quotient, rest) of a divided by b."""
    one, other = _read_both(a, b)
    if other == 0:
        raise BadNumber("divisor", "0")
    quotient, rest = _quotient_rest(one, other)
    return _text_of(quotient), _text_of(rest)


def divisor_of(a, b):
    """The greatest common divisor of a and b."""
    one, other = _read_both(a, b)
    while other:
        one, other = other, _rest_of(one, other)
    return _text_of(one)


def power_rest(length, a):
    """The rest of x ^ length when divided by a."""
    divisor = _read(a)
    if not is_integer(length) or not 0 <= length <= 10 ** 30:
        raise BadNumber("length", length)
    if divisor == 0:
        raise BadNumber("divisor", "0")
    rest = _rest_of(1, divisor)
    for bit in f"{length:b}":
        rest = _rest_of(_times(rest, rest), divisor)
        if bit == "1":
            rest = _rest_of(rest << 1, divisor)
    return _text_of(rest)


def factors_of(a):
    """The tuple of the pairs (factor, times) of all factors that are no products."""
    left = _read(a)
    if left == 0:
        raise BadNumber("polynomial", "0")
    found = []
    factor = 2
    # what is left is no product, once a factor of it could be no more than half as long
    while 2 * _degree(factor) <= _degree(left):
        times, left = _taken_out(left, factor)
        if times:
            found.append((_text_of(factor), times))
        # behind x itself, what has no 1 in front can be passed over: x divides it
        factor += 1 if factor == 2 else 2
    if left != 1:
        found.append((_text_of(left), 1))
    return tuple(sorted(found, key=lambda pair: (len(pair[0]), pair[0])))


def _read(text):
    """The polynomial as an integer whose bit k is the coefficient of x ^ k."""
    if not isinstance(text, str):
        raise BadText(0, 0)
    number = 0
    for power, sign in enumerate(text):
        if sign not in ("0", "1"):
            raise BadText(1, power + 1)
        if sign == "1":
            number = number | (1 << power)
    if text != "0" and not text.endswith("1"):
        raise BadText(1, len(text) + 1)
    return number


def _read_both(a, b):
    one = _read(a)
    return one, _read(b)


def _text_of(number):
    text = f"{number:b}"
    return text[::-1]


def _degree(number):
    return number.bit_length() - 1


def _times(one, other):
    total = 0
    while other:
        if other & 1:
            total = total ^ one
        one = one << 1
        other = other >> 1
    return total


def _quotient_rest(number, divisor):
    quotient = 0
    while _degree(number) >= _degree(divisor):
        shift = _degree(number) - _degree(divisor)
        quotient = quotient | (1 << shift)
        number = number ^ (divisor << shift)
    return quotient, number


def _rest_of(number, divisor):
    _, rest = _quotient_rest(number, divisor)
    return rest


def _taken_out(number, factor):
    """How often the factor divides the number, and what is left without it."""
    times = 0
    quotient, rest = _quotient_rest(number, factor)
    while rest == 0:
        times += 1
        number = quotient
        quotient, rest = _quotient_rest(number, factor)
    return times, number
