"""Codes: a group that is measured, gauge strings that do not count, and hidden pairs that tell what is stored."""

from keptqubits.bitnumbers import reduced_numbers, relations, rest_by
from keptqubits.errors import BadGauge, BadHidden, BadNumber, NotOne, Outside, Unlike
from keptqubits.groups import Group
from keptqubits.marks import letter_marks, mark_of
from keptqubits.stringbits import bit_tuple, bits_of, crossing, letters_of, single_bits, string_from


class Code:
    """A code; its hidden pairs are told, or found where they are None."""

    def __init__(self, size, strings, gauge=(), hidden=None):
        self.group = Group(size, strings)
        self.size = size
        self.gauge = tuple(gauge)
        _check_gauge(self.group, self.gauge)
        self.gauge_bits = tuple([bits_of(string) for string in self.gauge])
        _check_centre(self.group, self.gauge_bits)
        # the strings of the gauge are those that this table makes
        self.gauge_table = tuple(reduced_numbers([*self.group.bits, *self.gauge_bits]))
        self.gauged = (len(self.gauge_table) - self.group.rank) // 2
        self.kept = size - self.group.rank - self.gauged
        if hidden is None:
            self.hidden = _found_pairs(size, [*self.group.bits, *self.gauge_bits])
        else:
            self.hidden = tuple([tuple(pair) for pair in hidden])
            _check_hidden(size, self.hidden, [*self.group.bits, *self.gauge_bits])
            if len(self.hidden) < self.kept:
                raise BadHidden(len(self.hidden))
        self.marks = letter_marks(size, [*self.group.bits, *_partners(self.hidden)])

    def syndrome_of(self, string):
        """The syndrome of the group."""
        return self.group.syndrome_of(string)

    def kind_of(self, string):
        """The kind of a string, whatever its phase: "group", "gauge", "hidden", "dressed" or "outside"."""
        mark = self._mark_of(string)
        if mark >> (2 * self.kept):
            return "outside"
        bits = bits_of(string)
        if mark == 0:
            return "gauge" if rest_by(bits, self.group.bits) else "group"
        return "dressed" if crossing(self.size, bits, self.gauge_bits) else "hidden"

    def hidden_bits(self, string):
        """For each hidden pair (x, z) whether the string anticommutes with z, and whether with x."""
        mark = self._mark_of(string)
        if mark >> (2 * self.kept):
            raise Outside(string)
        return bit_tuple(mark, 2 * self.kept)

    def _mark_of(self, string):
        """The syndrome, and behind it the hidden bits, as one number."""
        if string.size != self.size:
            raise Unlike("size")
        return mark_of(self.marks, string)


def joined_codes(code, other):
    """Both codes beside each other, the places of the other one behind."""
    size = code.size + other.size
    strings = _all_beside(code.group.rows, 0, size) + _all_beside(other.group.rows, code.size, size)
    gauge = _all_beside(code.gauge, 0, size) + _all_beside(other.gauge, code.size, size)
    hidden = [_all_beside(pair, 0, size) for pair in code.hidden]
    hidden = hidden + [_all_beside(pair, code.size, size) for pair in other.hidden]
    return Code(size, strings, gauge, hidden)


def within(code, inner):
    """The code in which each place of a code is a block of places that keeps one bit by the inner code."""
    if inner.kept != 1 or inner.gauge:
        raise NotOne()
    size = code.size * inner.size
    blocks = _letter_blocks(inner)
    strings = []
    for place in range(code.size):
        strings = strings + _all_beside(inner.group.rows, place * inner.size, size)
    strings = strings + _images(blocks, code.group.rows)
    return Code(size, strings, _images(blocks, code.gauge), [_images(blocks, pair) for pair in code.hidden])


def _check_gauge(group, gauge):
    for index, string in enumerate(gauge):
        if string.size != group.size:
            raise Unlike("size")
        if string.phase % 2 == 1:
            raise BadNumber("sign", string)
        if 1 in group.syndrome_of(string):
            raise BadGauge(index)


def _check_centre(group, gauge_bits):
    """Products of gauge strings that commute with all gauge strings must have letters of the group."""
    pairs = [(crossing(group.size, bits, gauge_bits), bits) for bits in gauge_bits]
    for bits in relations(pairs):
        if rest_by(bits, group.bits):
            raise BadGauge(len(gauge_bits))


def _check_hidden(size, hidden, barred):
    """Refuse the first pair of hidden strings that is none; strings must commute with what is barred."""
    for index, pair in enumerate(hidden):
        if [string for string in pair if string.size != size or string.phase % 2 == 1]:
            raise BadHidden(index)
        one, other = [bits_of(string) for string in pair]
        if crossing(size, one, barred) or crossing(size, other, barred) or not crossing(size, one, [other]):
            raise BadHidden(index)
        barred = [*barred, one, other]


def _found_pairs(size, barred):
    """Hidden pairs made of the strings that commute with what is barred."""
    left = relations([(crossing(size, bits, barred), bits) for bits in single_bits(size, list(range(size)))])
    pairs = []
    while left:
        one = left[0]
        partners = [bits for bits in left if crossing(size, one, [bits])]
        if partners:
            other = partners[0]
            pairs.append((one, other))
            left = [_parted_from(size, bits, one, other) for bits in left if bits not in (one, other)]
        else:
            # it commutes with all that is left, and has been made to commute with the pairs: it is of the group
            left = left[1:]
    return tuple([tuple([string_from(letters_of(size, bits), 0) for bits in pair]) for pair in pairs])


def _parted_from(size, bits, one, other):
    """The bits, with those of a pair added that make them commute with both of it."""
    added = 0
    if crossing(size, bits, [one]):
        added = added ^ other
    if crossing(size, bits, [other]):
        added = added ^ one
    return bits ^ added


def _partners(hidden):
    """The bits of z and x of each pair (x, z): a string that has the x in it anticommutes with the z."""
    found = []
    for one, other in hidden:
        found.append(bits_of(other))
        found.append(bits_of(one))
    return found


def _all_beside(strings, ahead, size):
    """The strings, from a place on, with I at all other places."""
    return [string_from("I" * ahead + string.letters + "I" * (size - ahead - string.size), string.phase)
            for string in strings]


def _letter_blocks(inner):
    """What stands on a block of the inner code for each letter, as a string."""
    one, other = inner.hidden[0]
    blank = string_from("I" * inner.size, 0)
    both = string_from("I" * inner.size, 1).times(one).times(other)
    return {"I": blank, "X": one, "Y": both, "Z": other}


def _images(blocks, strings):
    return [_image(blocks, string) for string in strings]


def _image(blocks, string):
    """The string, each letter of which is replaced by its block."""
    parts = [blocks[letter] for letter in string.letters]
    phase = string.phase + sum([part.phase for part in parts])
    return string_from("".join([part.letters for part in parts]), phase)
