"""Strings of the letters I, X, Y, Z with a phase, and the texts and words that tell them."""

from keptqubits.errors import BadNumber, BadText, Unlike
from keptqubits.kinds import is_integer

# what stands ahead of the letters, by the phase
HEADS = ("", "i", "-", "-i")

# the letter of the product of two letters, and the power of i
PRODUCTS = {
    "II": ("I", 0), "IX": ("X", 0), "IY": ("Y", 0), "IZ": ("Z", 0),
    "XI": ("X", 0), "XX": ("I", 0), "XY": ("Z", 1), "XZ": ("Y", 3),
    "YI": ("Y", 0), "YX": ("Z", 3), "YY": ("I", 0), "YZ": ("X", 1),
    "ZI": ("Z", 0), "ZX": ("Y", 1), "ZY": ("X", 3), "ZZ": ("I", 0),
}


class Pauli:
    """A string: a letter for each place, and a phase, which tells a power of i."""

    def __init__(self, text):
        head, letters = _cut_text(text)
        self.letters = letters
        self.phase = HEADS.index(head)
        self.size = len(letters)
        self.weight = len(letters) - letters.count("I")

    def __eq__(self, other):
        return isinstance(other, Pauli) and self.letters == other.letters and self.phase == other.phase

    def times(self, q):
        """The product of this string and q, in this order."""
        letters = []
        phase = self.phase + q.phase
        for pair in _letter_pairs(self, q):
            letter, power = PRODUCTS[pair]
            letters.append(letter)
            phase += power
        return Pauli(HEADS[phase % 4] + "".join(letters))

    def commutes(self, q):
        """Whether the products with q in both orders are equal."""
        unlike = 0
        for pair in _letter_pairs(self, q):
            _, power = PRODUCTS[pair]
            unlike += power % 2
        return unlike % 2 == 0


def pauli_text(p):
    """The shortest text of a string."""
    return HEADS[p.phase] + p.letters


def placed(size, word):
    """The string of this size that a word tells."""
    if not is_integer(size) or size < 1:
        raise BadNumber("size", size)
    if not isinstance(word, str):
        raise BadText(0, 0)
    head = "-" if word.startswith("-") else ""
    told = _read_word(size, word, len(head))
    letters = ["I"] * size
    for letter, place in told:
        letters[place] = letter
    return Pauli(head + "".join(letters))


def word_of(p):
    """The word of a string."""
    if p.phase % 2 == 1:
        raise BadNumber("sign", p)
    parts = [f"{letter}{place}" for place, letter in enumerate(p.letters) if letter != "I"]
    if not parts:
        parts = ["I"]
    return HEADS[p.phase] + "*".join(parts)


def _cut_text(text):
    """What stands ahead of the letters of a text, without +, and the letters."""
    if not isinstance(text, str):
        raise BadText(0, 0)
    start = 0
    if text.startswith("+") or text.startswith("-"):
        start = 1
    if text[start:].startswith("i"):
        start += 1
    letters = text[start:]
    wrong = letters.lstrip("IXYZ")
    if wrong or not letters:
        raise BadText(1, len(text) - len(wrong) + 1)
    return text[:start].replace("+", ""), letters


def _letter_pairs(one, other):
    if one.size != other.size:
        raise Unlike("size")
    return [letter + beside for letter, beside in zip(one.letters, other.letters)]


def _read_word(size, word, start):
    """The pairs (letter, place) that the word tells from a start on, behind its sign."""
    if word[start:].startswith("I"):
        if len(word) > start + 1:
            raise BadText(1, start + 2)
        return []
    found = []
    least = 0
    while True:
        if word[start:start + 1] not in ("X", "Y", "Z"):
            raise BadText(1, start + 1)
        end = _end_of_place(size, word, start + 1, least)
        place = int(word[start + 1:end])
        found.append((word[start], place))
        if end == len(word):
            return found
        # behind the last place of all there is nothing to go on to
        if word[end] != "*" or place + 1 == size:
            raise BadText(1, end + 1)
        start = end + 1
        least = place + 1


def _end_of_place(size, word, start, least):
    """Where the place that begins at the start ends; it must be at least the least one, and below the size."""
    end = start
    while end < len(word) and _may_begin(size, word[start:end + 1], least):
        end += 1
    if end == start or int(word[start:end]) < least:
        raise BadText(1, end + 1)
    return end


def _may_begin(size, text, least):
    """Whether the last sign is a digit with which the text still begins such a place."""
    if text[-1] not in "0123456789":
        return False
    if text[0] == "0":
        return text == "0" and least == 0
    # with more digits behind it, the text stands for the places from low to low + many - 1
    low = int(text)
    many = 1
    while low < size:
        if low + many > least:
            return True
        low = low * 10
        many = many * 10
    return False
