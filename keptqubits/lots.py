"""Lots of places of a code: what is a lot, and how many bits it has to do with."""

from keptqubits.bitnumbers import reduced_numbers
from keptqubits.errors import BadLot
from keptqubits.kinds import is_integer
from keptqubits.stringbits import single_bits


def check_lot(code, lot):
    """Refuse what is no lot of places of the code."""
    if not isinstance(lot, (tuple, list)):
        raise BadLot(lot)
    least = 0
    for place in lot:
        if not is_integer(place) or not least <= place < code.size:
            raise BadLot(lot)
        least = place + 1


def lot_bits(size, lot):
    """The bits that strings within the lot may have, as one integer."""
    return sum(single_bits(size, lot))


def rest_of_lot(size, lot):
    """The lot of all other places."""
    return tuple([place for place in range(size) if place not in lot])


def number_of_lot(code, lot):
    """The number of a lot.

    Of the strings within the lot, those that commute with the group are less by the rank of what the group has on
    the lot; and the empty ones among them are less than those of the gauge by the rank of what these have on the rest.
    """
    inside = lot_bits(code.size, lot)
    outside = lot_bits(code.size, list(range(code.size))) ^ inside
    told = len(reduced_numbers([bits & inside for bits in code.group.bits]))
    elsewhere = len(reduced_numbers([bits & outside for bits in code.gauge_table]))
    return 2 * len(lot) - told - (len(code.gauge_table) - elsewhere)
