"""Bit polynomials as integers: the bit k, from the lowest one on, is the coefficient of x ^ k."""

from keptqubits.errors import BadText


def read_polynomial(text):
    """The polynomial that a text tells."""
    if not isinstance(text, str):
        raise BadText(0, 0)
    number = 0
    for power, sign in enumerate(text):
        if sign not in ("0", "1"):
            raise BadText(1, power + 1)
        if sign == "1":
            number = number | (1 << power)
    if text != "0" and not text.endswith("1"):
        raise BadText(1, len(text) + 1)
    return number


def read_both(a, b):
    """The polynomials that two texts tell; the first text is refused first."""
    one = read_polynomial(a)
    return one, read_polynomial(b)


def polynomial_text(number):
    """The text of a polynomial."""
    text = f"{number:b}"
    return text[::-1]


def degree(number):
    """The highest power; -1 for the polynomial 0."""
    return number.bit_length() - 1


def poly_times(one, other):
    """The product."""
    total = 0
    while other:
        if other & 1:
            total = total ^ one
        one = one << 1
        other = other >> 1
    return total


def quotient_rest(number, divisor):
    """The pair (quotient, rest) of a division by what is not 0."""
    quotient = 0
    while degree(number) >= degree(divisor):
        shift = degree(number) - degree(divisor)
        quotient = quotient | (1 << shift)
        number = number ^ (divisor << shift)
    return quotient, number


def rest_of(number, divisor):
    """The rest alone."""
    _, rest = quotient_rest(number, divisor)
    return rest


def common_divisor(one, other):
    """The greatest common divisor; 0 if both are 0."""
    while other:
        one, other = other, rest_of(one, other)
    return one


def rest_of_power(length, divisor):
    """The rest of x ^ length when divided by what is not 0, for a length of any size."""
    rest = rest_of(1, divisor)
    for bit in f"{length:b}":
        rest = rest_of(poly_times(rest, rest), divisor)
        if bit == "1":
            rest = rest_of(rest << 1, divisor)
    return rest
