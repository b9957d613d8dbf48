"""Programs of gates: what they make of strings and of what is stored, and how far they spread one letter."""

from keptqubits.bitnumbers import reduced_numbers, relations, rest_by
from keptqubits.errors import BadNumber, TooMany, Unlike
from keptqubits.gateworks import GATES, gate_done
from keptqubits.stringbits import (bit_tuple, bits_of, crossing, held_of, held_product, letters_of, many_ys,
                                   single_bits, string_from, string_of)

# the turns in their order, and what each one makes of the letters I, X, Y and Z
TURNS = ("", "h", "s", "hs", "sh", "shs")
TURNED = {"": "IXYZ", "h": "IZYX", "s": "IYXZ", "hs": "IZXY", "sh": "IYZX", "shs": "IXZY"}

# closed_actions and layers are for codes that keep so much, or have so many places
MOST_KEPT = 2
MOST_PLACES = 6


class Action:
    """What a program makes of the hidden strings: their hidden bits, and whether the sign is the other one."""

    def __init__(self, matrix, signs):
        self.matrix = tuple(matrix)
        self.signs = tuple(signs)


class Closed:
    """How many unlike actions words have, and the first word of each of them."""

    def __init__(self, order, words):
        self.order = order
        self.words = tuple(words)


class Layers:
    """How many layers fit, which matrices they have, and the first layer of each matrix."""

    def __init__(self, number, matrices, words):
        self.number = number
        self.matrices = tuple(matrices)
        self.words = tuple(words)


class Spread:
    """The greatest weight to which one letter spreads, and where it stands first."""

    def __init__(self, number, line, string):
        self.number = number
        self.line = line
        self.string = string


def image_of(program, string):
    """What a program of gates makes of a string."""
    if program.size != string.size:
        raise Unlike("size")
    _check_gates(program)
    return string_of(program.size, _image(program, 0, held_of(string)))


def action(code, program):
    """The Action of a program of gates on a code, None if it does not keep the code."""
    _check_program(code, program)
    images = _hidden_images(code, program)
    if images is None:
        return None
    return _action_of(code, images)


def closed_actions(code, programs):
    """All actions of words of programs, as Closed."""
    if code.kept > MOST_KEPT:
        raise TooMany("kept", code.kept, MOST_KEPT)
    for program in programs:
        _check_program(code, program)
    images = [_hidden_images(code, program) for program in programs]
    if None in images:
        raise BadNumber("program", images.index(None))
    actions = [_stored(_action_of(code, image)) for image in images]
    first = tuple([(bits, 0) for bits in single_bits(code.kept, list(range(code.kept)))])
    words = {first: ()}
    latest = [first]
    while latest:
        following = []
        for told in latest:
            for index, behind in enumerate(actions):
                made = tuple([_acted(code.kept, behind, held) for held in told])
                if made not in words:
                    words[made] = (*words[told], index)
                    following.append(made)
        latest = following
    return Closed(len(words), list(words.values()))


def layers(code):
    """All layers that fit a code, as Layers."""
    if code.size > MOST_PLACES:
        raise TooMany("size", code.size, MOST_PLACES)
    flat = [string for pair in code.hidden for string in pair]
    told = [(0, 0, ())]
    for place in range(code.size):
        turns = [(turn, _misfit(code, place, turn), _hidden_part(code, flat, place, turn)) for turn in TURNS]
        told = [(wrong ^ other, bits ^ part, (*layer, turn)) for wrong, bits, layer in told
                for turn, other, part in turns]
    fitting = [(bits, layer) for wrong, bits, layer in told if wrong == 0]
    firsts = {}
    for bits, layer in fitting:
        if bits not in firsts:
            firsts[bits] = layer
    many = len(flat)
    matrices = []
    for bits in sorted(firsts):
        rows = bit_tuple(bits, many * many)
        matrices.append(tuple([rows[many * index:many * index + many] for index in range(many)]))
    return Layers(len(fitting), matrices, [firsts[bits] for bits in sorted(firsts)])


def spread(program):
    """How far a program of gates spreads one letter, as Spread."""
    _check_gates(program)
    size = program.size
    best = None
    for line in range(len(program.steps) + 1):
        # the strings in order: the last place comes first
        for place in reversed(range(size)):
            for letter in "XYZ":
                string = string_from("I" * place + letter + "I" * (size - place - 1), 0)
                bits, _ = _image(program, line, held_of(string))
                number = size - letters_of(size, bits).count("I")
                if best is None or number > best.number:
                    best = Spread(number, line, string)
    return best


def _check_gates(program):
    if program.tabled or [line for line in program.steps if line.kind not in GATES and line.kind != "wait"]:
        raise Unlike("gates")


def _check_program(code, program):
    if program.size != code.size:
        raise Unlike("size")
    _check_gates(program)


def _image(program, start, held):
    """What the lines from a start on make of a held string."""
    for line in program.steps[start:]:
        if line.kind in GATES:
            held = gate_done(program.size, line.kind, line.places, held)
    return held


def _hidden_images(code, program):
    """The images of x and z of all hidden pairs, held; None if the program does not keep the code."""
    for row in code.group.rows:
        if code.group.sign_of(image_of(program, row)) != 1:
            return None
    for bits in code.gauge_bits:
        image, _ = _image(program, 0, (bits, 0))
        if rest_by(image, code.gauge_table):
            return None
    return [_image(program, 0, held_of(string)) for pair in code.hidden for string in pair]


def _matrix_rows(code, images):
    """The hidden bits of held strings that are hidden."""
    partners = [bits_of(string) for one, other in code.hidden for string in (other, one)]
    return [bit_tuple(crossing(code.size, bits, partners), 2 * code.kept) for bits, _ in images]


def _action_of(code, images):
    matrix = _matrix_rows(code, images)
    signs = []
    for held, row in zip(images, matrix):
        # the standard product times itself is I, so this is of the group, perhaps with the other sign
        rest = string_of(code.size, held_product(code.size, held, _standard(code, row)))
        signs.append(0 if code.group.sign_of(rest) == 1 else 1)
    return Action(matrix, signs)


def _standard(code, row):
    """The standard product of a row of hidden bits, held."""
    total = (0, 0)
    for index, (one, other) in enumerate(code.hidden):
        has_one, has_other = row[2 * index:2 * index + 2]
        if has_one:
            total = held_product(code.size, total, held_of(one))
        if has_other:
            total = held_product(code.size, total, held_of(other))
        total = (total[0], (total[1] + has_one * has_other) & 3)
    return total


def _stored(told):
    """An action as held strings of the kept bits: what X and Z at the first one become, then at the second one."""
    kept = len(told.signs) // 2
    found = []
    for row, sign in zip(told.matrix, told.signs):
        bits = 0
        for bit, single in zip(row, single_bits(kept, list(range(kept)))):
            bits = bits ^ (bit * single)
        found.append((bits, (many_ys(kept, bits) + 2 * sign) & 3))
    return tuple(found)


def _acted(kept, behind, held):
    """What an action, told by _stored, makes of a held string of the kept bits."""
    bits, power = held
    total = (0, power)
    # the letters X of a held string stand ahead of the letters Z
    for part in (0, 1):
        for place in range(kept):
            if bits & single_bits(kept, [place])[part]:
                total = held_product(kept, total, behind[2 * place + part])
    return total


def _misfit(code, place, turn):
    """A number that adds up to 0, over all places, just if a layer fits."""
    number = 0
    for strings, table in ((code.group.rows, code.group.bits), (code.gauge, code.gauge_table)):
        # a string is of the group or of the gauge if it commutes with all that commutes with these
        others = _commuting_with(code.size, table)
        for string in strings:
            number = (number << len(others)) | crossing(code.size, _turned_at(string, place, turn), others)
    return number


def _hidden_part(code, flat, place, turn):
    """What the turn of a place adds to the hidden bits of what the hidden strings become, all as one number."""
    partners = [bits_of(string) for one, other in code.hidden for string in (other, one)]
    number = 0
    for string in flat:
        number = (number << len(flat)) | crossing(code.size, _turned_at(string, place, turn), partners)
    return number


def _turned_at(string, place, turn):
    """The bits of the turned letter of a string at a place, I elsewhere."""
    letter = TURNED[turn]["IXYZ".index(string.letters[place])]
    one, other = single_bits(string.size, [place])
    return (one if letter in ("X", "Y") else 0) | (other if letter in ("Z", "Y") else 0)


def _commuting_with(size, table):
    singles = single_bits(size, list(range(size)))
    return reduced_numbers(relations([(crossing(size, bits, table), bits) for bits in singles]))
