"""Rows of bits of one width, added place by place."""


def reduced_bits(rows):
    """The reduced table of what the rows make."""
    numbers = _reduced_numbers([_number_of(row) for row in rows])
    return tuple([_bits_of(number, len(rows[0])) for number in numbers])


def bit_rank(rows):
    """How many rows the reduced table has."""
    return len(_reduced_numbers([_number_of(row) for row in rows]))


def combined(rows, row):
    """The ascending indexes of rows whose sum is row, or None if row is not made."""
    table = []
    for index, given in enumerate(rows):
        number, marks = _lowered(_number_of(given), 1 << index, table)
        if number:
            table.append((number, marks))
    number, marks = _lowered(_number_of(row), 0, table)
    if number:
        return None
    return tuple([index for index in range(len(rows)) if (marks >> index) & 1])


def kernel_bits(rows, width):
    """The reduced table of all rows of this width that meet each of rows an even number of times."""
    table = _reduced_numbers([_number_of(row) for row in rows])
    pivots = [number.bit_length() - 1 for number in table]
    found = []
    for place in range(width):
        if place not in pivots:
            found.append(_kernel_number(table, place))
    return tuple([_bits_of(number, width) for number in _reduced_numbers(found)])


def _number_of(row):
    """A row as one integer whose highest bit is the first one, so that a pivot is the highest bit."""
    number = 0
    for bit in row:
        number = 2 * number + bit
    return number


def _bits_of(number, width):
    return tuple([(number >> place) & 1 for place in reversed(range(width))])


def _reduced_numbers(numbers):
    """The rows of the reduced table, as integers."""
    table = []
    for given in numbers:
        number = given
        for row in table:
            # the sum is lower than the number just if the number has a 1 at the row's pivot
            number = min(number, number ^ row)
        if number:
            table = [min(row, row ^ number) for row in table]
            table.append(number)
    return sorted(table, reverse=True)


def _lowered(number, marks, table):
    """A number, and the marks of the rows in it, behind the adding of each row that lowers it."""
    for row, row_marks in table:
        if (number ^ row) < number:
            number = number ^ row
            marks = marks ^ row_marks
    return number, marks


def _kernel_number(table, place):
    """The row that has a 1 at this place without a pivot, and else only at pivots."""
    number = 1 << place
    for row in table:
        if (row >> place) & 1:
            number = number | (1 << (row.bit_length() - 1))
    return number
