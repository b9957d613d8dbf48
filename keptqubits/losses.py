"""Losses of places: which are borne, how they are mended, and what lost places tell."""

from itertools import combinations

from keptqubits.bitnumbers import combination, rest_by
from keptqubits.errors import BadNumber, TooMany
from keptqubits.kinds import is_integer
from keptqubits.lots import check_lot, lot_bits, number_of_lot, rest_of_lot
from keptqubits.paulis import word_of
from keptqubits.regions import Inside, moved_off, region
from keptqubits.stringbits import bits_of, crossing, letters_of, single_bits, string_from

# the codes for which all_lots is asked have at most so many places
MOST_PLACES = 12


class Unborne:
    """A lot and two strings with equal syndromes that show that losses and errors are not borne."""

    def __init__(self, lot, error, other):
        self.lot = tuple(lot)
        self.error = error
        self.other = other


def all_lots(code):
    """The numbers of all lots; that of the places a, b, .. stands at the index 2 ** a + 2 ** b + .."""
    if code.size > MOST_PLACES:
        raise TooMany("size", code.size, MOST_PLACES)
    lots = [[place for place in range(code.size) if (index >> place) & 1] for index in range(1 << code.size)]
    return tuple([number_of_lot(code, lot) for lot in lots])


def mender(code, lot):
    """The text of a program that brings all stored states back behind the loss of a lot, or an Inside."""
    told = moved_off(code, lot)
    if isinstance(told, Inside):
        return told
    lines = [f"fresh {place}" for place in lot]
    broken = _broken_rows(code, lot)
    for number, (row, mending) in enumerate(zip(broken, _mendings(code, lot, broken)), start=1):
        lines.append(f"measure {word_of(row)} to b{number}")
        lines.append(f"if b{number} then {word_of(mending)}")
    return "".join([line + "\n" for line in lines])


def borne(code, losses, errors):
    """None if so many losses and errors at once are borne, otherwise an Unborne."""
    for what, number in (("losses", losses), ("errors", errors)):
        if not is_integer(number) or not 0 <= number <= code.size:
            raise BadNumber(what, number)
    # a lot within another one has no greater number, so the greatest ones tell of all
    lot = _acting_lot(code, min(losses + 2 * errors, code.size))
    if lot is None:
        return None
    letters = region(code, lot).inside[0].letters
    parted = lot[losses + errors:]
    error = "".join([letter if place not in parted else "I" for place, letter in enumerate(letters)])
    other = "".join([letter if place in parted else "I" for place, letter in enumerate(letters)])
    return Unborne(lot[:losses], string_from(error, 0), string_from(other, 0))


def shares(code, lot):
    """What the places of a lot alone tell of the stored states: "none", "some" or "all"."""
    check_lot(code, lot)
    if code.kept == 0:
        raise BadNumber("kept", 0)
    if number_of_lot(code, lot) == 0:
        return "none"
    # the bare number of the lot and the number of its rest are 2 * kept together
    return "all" if number_of_lot(code, rest_of_lot(code.size, lot)) == 0 else "some"


def _broken_rows(code, lot):
    """Rows of the group that make, on the lot, what the whole group has there: a loss breaks these, and no more."""
    inside = lot_bits(code.size, lot)
    table = []
    found = []
    for row, bits in zip(code.group.rows, code.group.bits):
        rest = rest_by(bits & inside, table)
        if rest:
            table.append(rest)
            found.append(row)
    return found


def _mendings(code, lot, broken):
    """For each of the broken rows a string within the lot that anticommutes with it, and with no other one."""
    singles = single_bits(code.size, lot)
    rows = [bits_of(row) for row in broken]
    crossed = [crossing(code.size, single, rows) for single in singles]
    found = []
    for index in reversed(range(len(rows))):
        chosen = combination(crossed, 1 << index)
        bits = sum([singles[k] for k in chosen])
        found.append(string_from(letters_of(code.size, bits), 0))
    return found


def _acting_lot(code, many):
    """The first lot of so many places whose number is not 0, or None."""
    places = list(range(code.size))
    for lot in combinations(places, many):
        if number_of_lot(code, lot):
            return lot
    return None
