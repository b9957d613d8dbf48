"""Marks: a number for each string that tells with which of some strings it anticommutes.

The mark of a product is the sum of the marks, bit by bit.
"""

from keptqubits.stringbits import crossing, single_bits


def letter_marks(size, others):
    """For each place the dict of the marks of its letters; the bit of the first one of others is the highest."""
    found = []
    for place in range(size):
        one, other = [crossing(size, bits, others) for bits in single_bits(size, [place])]
        found.append({"I": 0, "X": one, "Y": one ^ other, "Z": other})
    return tuple(found)


def mark_of(marks, string):
    """The mark of a string."""
    mark = 0
    for at_place, letter in zip(marks, string.letters):
        mark = mark ^ at_place[letter]
    return mark
