"""What kind of value a value is."""


def is_integer(value):
    """Whether a value is an integer; True and False are none."""
    return isinstance(value, int) and not isinstance(value, bool)


def is_number(value):
    """Whether a value stands for a ratio: an integer, or a tuple of two integers, the second one above 0."""
    if is_integer(value):
        return True
    if not isinstance(value, tuple) or len(value) != 2:
        return False
    top, bottom = value
    return is_integer(top) and is_integer(bottom) and bottom > 0
