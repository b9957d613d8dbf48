"""Marks: a number for each string that tells with which of some strings it anticommutes.

The mark of a product is the sum of the marks, bit by bit.
"""

from keptqubits.stringbits import crossing, single_bits


def letter_marks(size, others):
    """For each place the dict of the marks of its letters; the bit of the first one of others is the highest."""
    found = []
    for place in range(size):
        one, other = [crossing(size, bits, others) for bits in single_bits(size, [place])]
        found.append({"I": 0, "X": one, "Y": one ^ other, "Z": other})
    return tuple(found)


def mark_of(marks, string):
    """The mark of a string."""
    mark = 0
    for at_place, letter in zip(marks, string.letters):
        mark = mark ^ at_place[letter]
    return mark


def all_marked(marks):
    """The pairs (letters, mark) of all strings, in ascending order."""
    found = [("", 0)]
    for at_place in marks:
        found = [(letters + letter, mark ^ at_place[letter]) for letters, mark in found for letter in "IXYZ"]
    return found


def marked_by_weight(marks, start, weight):
    """The pairs (letters, mark) of all strings of a weight on the places from start on, in ascending order."""
    if weight == 0:
        return [("I" * (len(marks) - start), 0)]
    found = []
    # the later the first letter other than I stands, the earlier the string comes
    for place in reversed(range(start, len(marks) - weight + 1)):
        behind = marked_by_weight(marks, place + 1, weight - 1)
        for letter in "XYZ":
            ahead, mark = "I" * (place - start) + letter, marks[place][letter]
            found.extend([(ahead + letters, mark ^ other) for letters, other in behind])
    return found
