"""What the tests reckon with: slow and plain, by lists of all strings, and without the modules that they test.

Only the class Pauli is taken from the program; its own tests stand in test_paulis.py.
"""

import functools
import itertools
import random

from keptqubits.paulis import Pauli, pauli_text

HEADS = ("", "i", "-", "-i")
WITH_BITS = {(0, 0): "I", (1, 0): "X", (1, 1): "Y", (0, 1): "Z"}
BITS = {letter: bits for bits, letter in WITH_BITS.items()}

# values that are no integers from 1 on
NO_SIZES = (0, -1, -7, True, False, None, "3", "", 1.0, 2.5, (1,), [1], b"1", {}, object())


def strings(words):
    return [Pauli(word) for word in words.split()]


def texts(told):
    return [pauli_text(string) for string in told]


def string(letters, phase=0):
    return Pauli(HEADS[phase % 4] + letters)


@functools.lru_cache(maxsize=None)
def all_letters(size):
    return tuple("".join(letters) for letters in itertools.product("IXYZ", repeat=size))


def all_strings(size):
    return [Pauli(head + letters) for letters in all_letters(size) for head in HEADS]


def letters_times(one, other):
    """The letters of a product."""
    return "".join(WITH_BITS[tuple(a ^ b for a, b in zip(BITS[first], BITS[second]))]
                   for first, second in zip(one, other))


def letters_commute(one, other):
    return sum(a != b and "I" not in (a, b) for a, b in zip(one, other)) % 2 == 0


def commute_with_all(letters, others):
    return all(letters_commute(letters, other) for other in others)


def product(size, factors):
    """The product of strings, in this order."""
    total = Pauli("I" * size)
    for factor in factors:
        total = total.times(factor)
    return total


def group_list(size, given):
    """All products of signed strings that commute, as a dict from letters to the sign, -1 or 1."""
    found = {"I" * size: 1}
    for new in given:
        if new.letters not in found:
            for letters, sign in list(found.items()):
                told = string(letters, 1 - sign).times(new)
                found[told.letters] = 1 - told.phase
    return found


def span_list(size, given):
    """The set of the letters of all products of strings."""
    found = {"I" * size}
    for new in given:
        if new.letters not in found:
            found |= {letters_times(letters, new.letters) for letters in found}
    return found


def rank_of(size, given):
    return len(span_list(size, given)).bit_length() - 1


def bit_row(letters):
    return tuple(BITS[letter][0] for letter in letters) + tuple(BITS[letter][1] for letter in letters)


def is_reduced(rows):
    """Whether strings have the form of a reduced table."""
    table = [bit_row(row.letters) for row in rows]
    if any(1 not in row for row in table):
        return False
    pivots = [row.index(1) for row in table]
    return pivots == sorted(set(pivots)) and all(
        [sum(row[pivot] for row in table) == 1 for pivot in pivots])


# Circuits of gates, each a tuple (name, place ..); [54] tells what they do to letters.

def _replaced(told, at, phase):
    letters = list(told.letters)
    for place, letter in at.items():
        letters[place] = letter
    return string("".join(letters), told.phase + phase)


def gate_done(gate, told):
    """What a gate makes of a string."""
    name, place = gate[0], gate[1]
    letter = told.letters[place]
    if name == "h":
        return _replaced(told, {place: {"I": "I", "X": "Z", "Y": "Y", "Z": "X"}[letter]}, 2 * (letter == "Y"))
    if name == "s":
        return _replaced(told, {place: {"I": "I", "X": "Y", "Y": "X", "Z": "Z"}[letter]}, 2 * (letter == "Y"))
    if name in ("x", "y", "z"):
        return _replaced(told, {}, 2 * (letter not in ("I", name.upper())))
    assert name == "cx"
    first, second = BITS[letter], BITS[told.letters[gate[2]]]
    made = {place: WITH_BITS[first[0], first[1] ^ second[1]], gate[2]: WITH_BITS[second[0] ^ first[0], second[1]]}
    minus = first[0] and second[1] and first[1] == second[0]
    return _replaced(told, made, 2 * int(bool(minus)))


def undone(gate, told):
    """What the gate makes into the string."""
    for _ in range(3 if gate[0] == "s" else 1):
        told = gate_done(gate, told)
    return told


def circuit_done(circuit, told):
    for gate in circuit:
        told = gate_done(gate, told)
    return told


def circuit_undone(circuit, told):
    for gate in reversed(circuit):
        told = undone(gate, told)
    return told


def random_circuit(source, size, gates=None):
    found = []
    for _ in range(6 * size if gates is None else gates):
        name = source.choice("hsxyz" + "c" * 6)
        if name == "c" and size > 1:
            found.append(("cx", *source.sample(range(size), 2)))
        else:
            found.append((name if name != "c" else "h", source.randrange(size)))
    return found


def single(size, place, letter, phase=0):
    return string("I" * place + letter + "I" * (size - place - 1), phase)


class Made:
    """Strings of a code, made from single letters by a circuit.

    Places of the code ahead of the circuit: rank with Z in the group, then gauged pairs, then kept pairs.
    """

    def __init__(self, source, size, rank, gauged=0, gates=None):
        self.size, self.rank, self.gauged, self.kept = size, rank, gauged, size - rank - gauged
        self.circuit = random_circuit(source, size, gates)
        self.signs = [source.choice((0, 2)) for _ in range(rank)]
        self.group = [self.image(place, "Z", phase) for place, phase in enumerate(self.signs)]
        self.gauge = []
        for place in range(rank, rank + gauged):
            self.gauge += [self.image(place, "X", source.choice((0, 2))), self.image(place, "Z", source.choice((0, 2)))]
        self.pairs = [(self.image(place, "X"), self.image(place, "Z")) for place in range(rank + gauged, size)]

    def image(self, place, letter, phase=0):
        return circuit_done(self.circuit, single(self.size, place, letter, phase))

    def sign_of(self, told):
        """The sign of a string of the group, by taking the circuit back; None if the group has it with neither."""
        back = circuit_undone(self.circuit, told)
        if back.phase % 2 or back.letters[self.rank:].strip("I") or back.letters.strip("IZ"):
            return None
        return (-1) ** ((back.phase + sum(self.signs[place] for place in range(self.rank)
                                          if back.letters[place] == "Z")) // 2 % 2)


def mixed(source, size, given, many):
    """So many products of given strings, all given ones among what they make, shuffled."""
    found = list(given)
    for at in range(len(found)):
        for _ in range(2):
            other = source.randrange(len(found))
            if other != at:
                # an i more where they anticommute, so that the product is signed
                turned = 0 if found[at].commutes(found[other]) else 1
                found[at] = string("I" * size, turned).times(found[at]).times(found[other])
    while given and len(found) < many:
        one, other = source.choice(found), source.choice(found)
        turned = 0 if one.commutes(other) else 1
        found.append(string("I" * size, turned).times(one).times(other))
    source.shuffle(found)
    return found


def seeded(seed):
    return random.Random(seed)


def refused(case, error, call, *given):
    """The error, of this very class, that a call raises."""
    with case.assertRaises(error) as caught:
        call(*given)
    case.assertIs(caught.exception.__class__, error)
    return caught.exception


def kinds_list(size, group, gauge):
    """The kind of each string, as a dict from its letters, by lists of all products."""
    group_letters = [row.letters for row in group]
    gauge_letters = [row.letters for row in gauge]
    of_group, of_gauge = span_list(size, group), span_list(size, [*group, *gauge])
    found = {}
    for letters in all_letters(size):
        if letters in of_group:
            found[letters] = "group"
        elif letters in of_gauge:
            found[letters] = "gauge"
        elif not commute_with_all(letters, group_letters):
            found[letters] = "outside"
        else:
            found[letters] = "hidden" if commute_with_all(letters, gauge_letters) else "dressed"
    return found


def pairs_fit(made, hidden):
    """Whether hidden pairs are as many as are kept, signed, and as [19] says, for the strings of a Made."""
    if hidden.__class__ is not tuple or len(hidden) != made.kept:
        return False
    flat = []
    for pair in hidden:
        if pair.__class__ is not tuple or len(pair) != 2:
            return False
        flat.extend(pair)
    if any(told.__class__ is not Pauli or told.size != made.size or told.phase % 2 for told in flat):
        return False
    if not all([told.commutes(other) for told in flat for other in made.group + made.gauge]):
        return False
    return all([flat[a].commutes(flat[b]) == (a // 2 != b // 2) for a in range(len(flat)) for b in range(a)])


def all_lots_of(size):
    """All lots; that of the places a, b, .. has the index 2 ** a + 2 ** b + .."""
    return [tuple(place for place in range(size) if (index >> place) & 1) for index in range(2 ** size)]


def is_within(letters, lot):
    return all(letter == "I" or place in lot for place, letter in enumerate(letters))


def bad_lots(size):
    """Values that are no lots of places of a code of this size."""
    return (None, 0, 1, True, "", "0", b"0", "01", set(), {0}, frozenset({0}), {}, {0: 1}, object(), 1.0, range(1),
            (size,), [size], (-1,), [-1, 0], (0, 0), [0, 0], (1, 0), [1, 0], (0, size), (True,), [True], (0, True),
            (False,), [False], (False, 1), ("0",), ["0"], (None,), (0.0,), ((0,),), [[0]], (0, 1, 1), (0, None),
            (10 ** 30,), (-10 ** 30, 0))


class Listed:
    """The numbers of all lots of a code by lists of all strings."""

    def __init__(self, size, group, gauge):
        self.kinds = kinds_list(size, group, gauge)
        group_letters = [row.letters for row in group]
        both = group_letters + [row.letters for row in gauge]
        self.commuting = [letters for letters in all_letters(size) if commute_with_all(letters, group_letters)]
        self.bare = [letters for letters in self.commuting if commute_with_all(letters, both)]

    def rank(self, listed, kinds, lot):
        """How many strings, no product of which is of these kinds, there are within a lot."""
        inside = [letters for letters in listed if is_within(letters, lot)]
        empty = [letters for letters in inside if self.kinds[letters] in kinds]
        return len(inside).bit_length() - len(empty).bit_length()

    def number(self, lot):
        return self.rank(self.commuting, ("group", "gauge"), lot)

    def bare_number(self, lot):
        return self.rank(self.bare, ("group",), lot)


def some_made(seed, sizes, each=1):
    """Codes of all shapes of these sizes, each as a pair (Made, gauge strings), with some more gauge strings."""
    source = seeded(seed)
    for size in sizes:
        for rank in range(size + 1):
            for gauged in range(min(2, size - rank) + 1):
                for _ in range(each):
                    made = Made(source, size, rank, gauged)
                    gauge = list(made.gauge)
                    if gauge and source.random() < 0.5:
                        gauge = mixed(source, size, gauge + made.group[:1], len(gauge) + 2)
                    yield made, gauge
