"""What gates make of held strings."""

from keptqubits.stringbits import single_bits

GATES = ("h", "s", "x", "y", "z", "cx", "cz", "swap")


def gate_done(size, kind, places, held):
    """What a gate at these places makes of a held string."""
    if kind in ("cx", "cz", "swap"):
        return _pair_done(size, kind, places, held)
    bits, power = held
    one, other = single_bits(size, places)
    has_x, has_z = bool(bits & one), bool(bits & other)
    if kind == "h":
        if has_x != has_z:
            bits = bits ^ one ^ other
        power += 2 * (has_x and has_z)
    elif kind == "s":
        # X becomes i times X times Z
        if has_x:
            bits = bits ^ other
        power += has_x
    elif kind == "x":
        power += 2 * has_z
    elif kind == "y":
        power += 2 * (has_x != has_z)
    else:
        power += 2 * has_x
    return bits, power % 4


def _pair_done(size, kind, places, held):
    bits, power = held
    one, other, second_one, second_other = single_bits(size, places)
    has_x, has_z = bool(bits & one), bool(bits & other)
    second_x, second_z = bool(bits & second_one), bool(bits & second_other)
    if kind == "cx":
        bits = bits ^ (second_one * has_x) ^ (other * second_z)
    elif kind == "cz":
        bits = bits ^ (second_other * has_x) ^ (other * second_x)
        # the Z that comes to the second place has to go behind the X there
        power += 2 * (has_x and second_x)
    else:
        bits = bits ^ ((one | second_one) * (has_x != second_x)) ^ ((other | second_other) * (has_z != second_z))
    return bits, power % 4
