"""Sorts of errors: which strings are thought to come, told by a text."""

from math import comb

from keptqubits.errors import BadNumber, BadText, TooMany, Unlike
from keptqubits.kinds import is_integer
from keptqubits.stringbits import string_from

# a sort has at most so many places, and errors_of tells at most so many strings
MOST_PLACES = 24
MOST_ERRORS = 20000

# what may stand behind letters
LETTER_WORDS = ("X", "Y", "Z", "XY", "XZ", "YX", "YZ", "ZX", "ZY", "XYZ", "XZY", "YXZ", "YZX", "ZXY", "ZYX")


class Sort:
    """The strings of one size that all lines of a text let."""

    def __init__(self, size, text):
        if not is_integer(size) or not 1 <= size <= MOST_PLACES:
            raise BadNumber("size", size)
        if not isinstance(text, str):
            raise BadText(0, 0)
        self.size = size
        self.text = text
        rules = _read_rules(size, text)
        # the least of all these numbers, and what all these lines have in common
        self.run = min([size] + [told for kind, told in rules if kind == "run"])
        self.letters = _common("XYZ", [told for kind, told in rules if kind == "letters"])
        self.places = _common(list(range(size)), [told for kind, told in rules if kind == "within"])
        nears = [told for kind, told in rules if kind == "near"]
        self.pairs = _common(nears[0], nears) if nears else None
        most = min([size] + [told for kind, told in rules if kind == "weight"])
        self.most = most if self.letters else 0

    def lets(self, string):
        """Whether a string is of the sort, whatever its phase."""
        if string.size != self.size:
            raise Unlike("size")
        places = [place for place, letter in enumerate(string.letters) if letter != "I"]
        wrong = [place for place in places if string.letters[place] not in self.letters]
        return not wrong and _may_differ(self, places)


def how_many(sort):
    """How many strings are of the sort."""
    fills = len(sort.letters)
    if sort.pairs is not None:
        # at most two places, so all can be listed
        return sum([len(_filled(sort, places)) for places in _all_places(sort)])
    many = 1
    for index, place in enumerate(sort.places):
        behind = len([other for other in sort.places[index + 1:] if other - place < sort.run])
        power = fills if sort.run else 0
        for chosen in range(sort.most):
            many += comb(behind, chosen) * power
            power = power * fills
    return many


def errors_of(sort):
    """All strings of the sort, in ascending order."""
    many = how_many(sort)
    if many > MOST_ERRORS:
        raise TooMany("errors", many, MOST_ERRORS)
    found = []
    for places in _all_places(sort):
        found.extend(_filled(sort, places))
    # the letters stand in the order of their signs
    return tuple([string_from(letters, 0) for letters in sorted(found)])


def _common(first, others):
    """What is in the first and in all others, in order."""
    return tuple([one for one in first if not [other for other in others if one not in other]])


def _may_differ(sort, places):
    """Whether just these places, in ascending order, may have letters other than I."""
    if not places:
        return True
    if len(places) > sort.most or places[-1] - places[0] >= sort.run:
        return False
    if [place for place in places if place not in sort.places]:
        return False
    return sort.pairs is None or len(places) == 1 or tuple(places) in sort.pairs


def _all_places(sort):
    """The places with letters other than I of all strings of the sort, each time as a tuple."""
    found = [()]
    latest = [()]
    while latest:
        latest = [longer for places in latest for longer in _one_more(sort, places)]
        found.extend(latest)
    return found


def _one_more(sort, places):
    """The places, with each one behind them that may stand with them."""
    last = places[-1] if places else -1
    return [(*places, place) for place in sort.places if place > last and _may_differ(sort, (*places, place))]


def _filled(sort, places):
    """The letters of all strings of the sort that differ from I just at these places."""
    rows = ["I" * sort.size]
    for place in places:
        rows = [row[:place] + letter + row[place + 1:] for row in rows for letter in sort.letters]
    return rows


def _read_rules(size, text):
    """What the lines of a text tell, as pairs (kind, told)."""
    rules = []
    for line, row in enumerate(text.split("\n"), start=1):
        words = [word for word in row.split(" ") if word]
        if words:
            rules.append((words[0], _read_line(size, line, words)))
    return rules


def _read_line(size, line, words):
    """What the words of a line tell behind the first one."""
    kind = words[0]
    if kind in ("weight", "run"):
        numbers = _numbers_below(size + 1)
        return numbers[_only_word(line, words, list(numbers))]
    if kind == "letters":
        return _only_word(line, words, LETTER_WORDS)
    if kind not in ("near", "within"):
        raise BadText(line, 1)
    found = []
    for column, word in enumerate(words[1:], start=2):
        told = _pair_of(size, word) if kind == "near" else _numbers_below(size).get(word)
        if told is None or told in found:
            raise BadText(line, column)
        found.append(told)
    return found


def _only_word(line, words, right):
    """The one word behind the first one, which must be one of the right ones."""
    if len(words) < 2 or words[1] not in right:
        raise BadText(line, 2)
    if len(words) > 2:
        raise BadText(line, 3)
    return words[1]


def _numbers_below(limit):
    """The numbers from 0 on below a limit, by their texts."""
    return {str(number): number for number in range(limit)}


def _pair_of(size, word):
    """The two places of a word A-B, the lower one first, or None."""
    one, _, other = word.partition("-")
    places = [_numbers_below(size).get(one), _numbers_below(size).get(other)]
    if None in places or places[0] == places[1]:
        return None
    return tuple(sorted(places))
