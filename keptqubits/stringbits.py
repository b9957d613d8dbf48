"""Strings as integers.

The bits of a string of size n are one integer below 4 ** n, the first bit the highest one. A *held* string is a pair
(bits, power): i ** power times an X for each 1 in the first half of the bits, times a Z for each 1 in the second one.
"""

from keptqubits.paulis import HEADS, Pauli

# the letter with these bits: one of the first half, one of the second one
LETTERS = {"00": "I", "10": "X", "11": "Y", "01": "Z"}


def string_from(letters, phase):
    """The string with these letters and this phase, any integer, modulo 4."""
    return Pauli(HEADS[phase % 4] + letters)


def bits_of(string):
    """The bits of a string."""
    first = string.letters.translate({73: "0", 88: "1", 89: "1", 90: "0"})
    second = string.letters.translate({73: "0", 88: "0", 89: "1", 90: "1"})
    return int(first + second, 2)


def letters_of(size, bits):
    """The letters with these bits."""
    first = f"{bits >> size:b}".zfill(size)
    second = f"{second_half(size, bits):b}".zfill(size)
    return "".join([LETTERS[one + other] for one, other in zip(first, second)])


def second_half(size, bits):
    """The second half of the bits alone."""
    return bits & ((1 << size) - 1)


def many_ys(size, bits):
    """How many letters with these bits are Y."""
    return f"{(bits >> size) & bits:b}".count("1")


def held_of(string):
    """A string as a held one."""
    # Y is i times X times Z
    return bits_of(string), (string.phase + string.letters.count("Y")) % 4


def string_of(size, held):
    """A held string as a string."""
    bits, power = held
    letters = letters_of(size, bits)
    return string_from(letters, power - letters.count("Y"))


def held_product(size, one, other):
    """The product of two held strings, in this order."""
    bits, power = one
    other_bits, other_power = other
    # each Z of the one that stands ahead of an X of the other changes the sign as it goes behind it
    turned = parity(bits & (other_bits >> size))
    return bits ^ other_bits, (power + other_power + 2 * turned) % 4


def parity(number):
    """1 if an odd number of bits are 1, otherwise 0."""
    return f"{number:b}".count("1") & 1


def crossing(size, bits, others):
    """A number with one bit for each of others, the first one the highest: 1 if the string anticommutes with it."""
    exchanged = (second_half(size, bits) << size) | (bits >> size)
    number = 0
    for other in others:
        number = 2 * number + parity(exchanged & other)
    return number


def single_bits(size, places):
    """The bits of X and of Z at each of these places, I elsewhere."""
    found = []
    for place in places:
        found.append(1 << (2 * size - 1 - place))
        found.append(1 << (size - 1 - place))
    return found


def bit_tuple(number, many):
    """So many bits of a number as a tuple, the highest one first."""
    return tuple([(number >> place) & 1 for place in reversed(range(many))])
