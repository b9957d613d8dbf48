"""Standings in slots: independent held strings, or None where a slot is free.

Which signs the strings have is told apart from them by a *state*: one bit for each slot, 1 if the string stands with
the other sign. So what a line does to strings is reckoned once, and for each state there is little to do.
"""

from keptqubits.bitnumbers import combination
from keptqubits.gateworks import gate_done
from keptqubits.stringbits import crossing, held_product, many_ys


def crossed_slots(size, bits, rows):
    """A number with the bit of each slot whose string anticommutes with the one of these bits."""
    return crossing(size, bits, [0 if row is None else row[0] for row in reversed(rows)])


def told_by_slots(size, held, rows):
    """How a signed string is a product of those in slots: a pair (slots, sign); None if it is none.

    slots is a number with the bits of their slots; sign is 1 if the product has the other sign, otherwise 0.
    """
    used = [slot for slot, row in enumerate(rows) if row is not None]
    chosen = combination([rows[slot][0] for slot in used], held[0])
    if chosen is None:
        return None
    total = (0, 0)
    slots = 0
    for index in chosen:
        total = held_product(size, total, rows[used[index]])
        slots += 1 << used[index]
    return slots, int(total[1] != held[1])


def gated(size, kind, places, rows):
    """The strings behind a gate."""
    return [None if row is None else gate_done(size, kind, places, row) for row in rows]


def freed(size, rows, crossed):
    """Free a slot so that no string is left that is one of the crossed slots.

    Told are the strings then, the slot, and the slots whose bits change where that of the freed slot is 1; the last
    two are 0 if no slot is crossed.
    """
    if crossed == 0:
        return list(rows), 0, 0
    lowest = crossed & -crossed
    slot = lowest.bit_length() - 1
    found = []
    for other, row in enumerate(rows):
        if other != slot and (crossed >> other) & 1:
            row = held_product(size, row, rows[slot])
        found.append(row)
    found[slot] = None
    return found, lowest, crossed


def put_in_slot(rows, held):
    """The strings with one more in the first free slot, and the bit of this slot."""
    found = list(rows)
    if None not in found:
        found.append(None)
    slot = found.index(None)
    found[slot] = held
    return found, 1 << slot


def reduced_in_slots(size, rows):
    """The reduced table of the strings, all with the sign +: triples (held, slots, sign), see told_by_slots."""
    table = []
    for slot, row in enumerate(rows):
        if row is not None:
            entry = _lowered(size, (row, 1 << slot), table)
            table = [_lowered(size, other, [entry]) for other in table]
            table.append(entry)
    found = []
    for (bits, power), slots in sorted(table, reverse=True):
        plain = many_ys(size, bits) & 3
        found.append(((bits, plain), slots, int(power != plain)))
    return found


def _lowered(size, entry, table):
    """A pair (held string, slots) times each one of a table that lowers its bits."""
    held, slots = entry
    for row, others in table:
        if (held[0] ^ row[0]) < held[0]:
            held = held_product(size, held, row)
            slots = slots ^ others
    return held, slots
