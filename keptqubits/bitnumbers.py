"""Rows of bits of one width as integers: the first bit is the highest one, so that a pivot is the highest bit."""


def reduced_numbers(numbers):
    """The rows of the reduced table."""
    table = []
    for given in numbers:
        number = rest_by(given, table)
        if number:
            table = [min(row, row ^ number) for row in table]
            table.append(number)
    return sorted(table, reverse=True)


def rest_by(number, table):
    """What is left of a number behind the adding of each row that lowers it: 0 if the rows of a table make it."""
    for row in table:
        # the sum is lower than the number just if the number has a 1 at the row's pivot
        number = min(number, number ^ row)
    return number


def combination(numbers, number):
    """The ascending indexes of numbers whose sum is the number; None if they do not make it."""
    table = []
    for index, given in enumerate(numbers):
        rest, marks = _lowered(given, 1 << index, table)
        if rest:
            table.append((rest, marks))
    rest, marks = _lowered(number, 0, table)
    if rest:
        return None
    return tuple([index for index in range(len(numbers)) if (marks >> index) & 1])


def relations(pairs):
    """Of pairs (number, marks): the sums of the marks of as many sums of numbers as are 0, and no sums of others."""
    table = []
    found = []
    for given, given_marks in pairs:
        number, marks = _lowered(given, given_marks, table)
        if number:
            table.append((number, marks))
        else:
            found.append(marks)
    return found


def _lowered(number, marks, table):
    """A number, and the marks of the rows in it, behind the adding of each row that lowers it."""
    for row, row_marks in table:
        if (number ^ row) < number:
            number = number ^ row
            marks = marks ^ row_marks
    return number, marks
