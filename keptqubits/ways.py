"""From code to code: what measured strings make of a code, and ways that keep all that is stored."""

from keptqubits.bitnumbers import combination, reduced_numbers, relations, rest_by
from keptqubits.codes import Code
from keptqubits.errors import BadGauge, BadNumber, Unlike
from keptqubits.groups import Group
from keptqubits.paulis import word_of
from keptqubits.stringbits import bits_of, crossing, letters_of, single_bits, string_from


class Kept:
    """The code behind a measured string, its sign if the group has it, and otherwise a frame."""

    def __init__(self, code, sign, frame):
        self.code = code
        self.sign = sign
        self.frame = frame


class Looked:
    """The hidden bits of a measured string that looks at something stored."""

    def __init__(self, bits):
        self.bits = tuple(bits)


class Along:
    """The code behind some measured strings, with the signs and frames of all of them."""

    def __init__(self, code, signs, frames):
        self.code = code
        self.signs = tuple(signs)
        self.frames = tuple(frames)


class Stopped:
    """The index of the first string that looks at something stored, and its hidden bits."""

    def __init__(self, number, bits):
        self.number = number
        self.bits = tuple(bits)


class Way:
    """A path to another code, a frame for each step, a string for its end, and where the hidden strings are then."""

    def __init__(self, path, frames, string, hidden):
        self.path = tuple(path)
        self.frames = tuple(frames)
        self.string = string
        self.hidden = tuple(hidden)


class ClosedLot:
    """All plain groups to which paths lead, where that of the target is not among them."""

    def __init__(self, groups):
        self.groups = tuple(groups)


def measured_in(code, string):
    """What measuring a string makes of a code: a Kept, or a Looked if it looks at something stored."""
    _check_strings(code, [string])
    kind = code.kind_of(string)
    if kind in ("hidden", "dressed"):
        return Looked(code.hidden_bits(string))
    if kind == "group":
        return Kept(code, code.group.sign_of(string), None)
    frames = [row for row in [*code.group.rows, *code.gauge] if not row.commutes(string)]
    return Kept(_code_behind(code, string, frames[0]), None, frames[0])


def measured_along(code, strings):
    """What measuring strings, one after the other, makes of a code: an Along, or a Stopped."""
    _check_strings(code, strings)
    signs = []
    frames = []
    for number, string in enumerate(strings):
        told = measured_in(code, string)
        if isinstance(told, Looked):
            return Stopped(number, told.bits)
        code = told.code
        signs.append(told.sign)
        frames.append(told.frame)
    return Along(code, signs, frames)


def way(code, target, strings):
    """A Way from a code to a target by some strings, or a ClosedLot."""
    if code.gauge or target.gauge:
        raise BadGauge(0)
    if target.size != code.size:
        raise Unlike("size")
    _check_strings(code, strings)
    if code.kept != target.kept:
        raise Unlike("kept")
    steps = [bits_of(string) for string in strings]
    # the groups that have been met, each with the one ahead of it and the index that led from there
    met = {code.group.bits: None}
    latest = [code.group.bits]
    while latest and target.group.bits not in met:
        following = []
        for rows in latest:
            for index, bits in enumerate(steps):
                led = _led_to(code.size, rows, bits)
                if led not in met:
                    met[led] = (rows, index)
                    following.append(led)
        latest = following
    if target.group.bits not in met:
        return ClosedLot([_plain_group(code.size, rows) for rows in met])
    return _way_by(code, target, strings, _path_to(met, target.group.bits))


def way_text(strings, told):
    """The text of a program that goes a way."""
    lines = []
    for number, (index, frame) in enumerate(zip(told.path, told.frames), start=1):
        lines.append(f"measure {word_of(strings[index])} to b{number}")
        lines.append(f"if b{number} then {word_of(frame)}")
    for place, letter in enumerate(told.string.letters):
        if letter != "I":
            lines.append(f"{letter.lower()} {place}")
    return "\n".join(lines)


def _check_strings(code, strings):
    for string in strings:
        if string.size != code.size:
            raise Unlike("size")
    for string in strings:
        if string.phase % 2 == 1:
            raise BadNumber("sign", string)


def _code_behind(code, string, frame):
    """The code behind a measured string of the gauge, or one that is outside; the frame anticommutes with it."""
    size = code.size
    bits = bits_of(string)
    # where the frame is no string of the group, all of these commute with the string
    rows = [string, *_commuting(code.group.rows, string, frame)]
    hidden = [_commuting(pair, string, frame) for pair in code.hidden]
    # of the old gauge what commutes with the string, as far as it is not of the new group
    table = reduced_numbers([bits_of(row) for row in rows])
    gauge = []
    for row in relations([(crossing(size, row, [bits]), row) for row in code.gauge_table]):
        rest = rest_by(row, table)
        if rest:
            table = reduced_numbers([*table, rest])
            gauge.append(string_from(letters_of(size, row), 0))
    return Code(size, rows, gauge, hidden)


def _commuting(strings, string, frame):
    """The strings, each one that anticommutes with a string times the frame; I is left out."""
    found = []
    for row in strings:
        told = row if row.commutes(string) else row.times(frame)
        if told.weight:
            found.append(told)
    return found


def _led_to(size, rows, bits):
    """The bits of the plain group to which a string leads one; the same one if it does not."""
    crossed = [row for row in rows if crossing(size, row, [bits])]
    if not crossed:
        return rows
    others = [row ^ crossed[0] if row in crossed else row for row in rows if row != crossed[0]]
    return tuple(reduced_numbers([bits, *others]))


def _plain_group(size, rows):
    return Group(size, [string_from(letters_of(size, bits), 0) for bits in rows])


def _path_to(met, rows):
    """The indexes that led to a group."""
    path = []
    while met[rows] is not None:
        rows, index = met[rows]
        path.append(index)
    return list(reversed(path))


def _way_by(code, target, strings, path):
    """The Way by a path."""
    told = measured_along(code, [strings[index] for index in path])
    behind = told.code
    size = code.size
    # the string changes the signs of just those rows that the target has with the other sign
    turned = 0
    for row in target.group.rows:
        turned = 2 * turned + int(behind.group.sign_of(row) == -1)
    singles = single_bits(size, list(range(size)))
    chosen = combination([crossing(size, single, target.group.bits) for single in singles], turned)
    string = string_from(letters_of(size, sum([singles[index] for index in chosen])), 0)
    hidden = [tuple([_turned_by(row, string) for row in pair]) for pair in behind.hidden]
    return Way(path, told.frames, string, hidden)


def _turned_by(row, string):
    """What a string becomes when another one is put on."""
    return row if row.commutes(string) else string_from(row.letters, row.phase + 2)
