"""Tables of mendings: whether there is one for all errors of a sort, and how well one does."""

from keptqubits.errors import BadNumber, Unlike
from keptqubits.marks import mark_of, marked_by_weight
from keptqubits.sorts import errors_of
from keptqubits.stringbits import bit_tuple, string_from


class Parted:
    """A table that leads all errors of a sort right."""

    def __init__(self, table):
        self.table = {syndrome: table[syndrome] for syndrome in table}


class Clash:
    """Two errors that no table leads both right, the one that comes first in order ahead."""

    def __init__(self, error, other):
        self.error = error
        self.other = other


class Distance:
    """The least weight of a string that turns what is stored, and the first such string."""

    def __init__(self, number, string):
        self.number = number
        self.string = string


def parted(code, sort):
    """A table for all errors of the sort, as Parted, or two errors that clash."""
    if sort.size != code.size:
        raise Unlike("size")
    firsts = {}
    for error in errors_of(sort):
        mark = mark_of(code.marks, error)
        syndrome = mark >> (2 * code.kept)
        if syndrome not in firsts:
            firsts[syndrome] = (mark, error)
        first_mark, first = firsts[syndrome]
        if first_mark != mark:
            return Clash(first, error)
    rank = code.group.rank
    return Parted({bit_tuple(syndrome, rank): error for syndrome, (_, error) in firsts.items()})


def judged(code, table, sort):
    """None if a table leads all errors of the sort right, otherwise the first one that it does not."""
    if sort.size != code.size:
        raise Unlike("size")
    check_table(code, table)
    mended = {}
    for error in errors_of(sort):
        mark = mark_of(code.marks, error)
        syndrome = mark >> (2 * code.kept)
        if syndrome not in mended:
            mended[syndrome] = mended_mark(code, table, syndrome)
        if mended[syndrome] != mark:
            return error
    return None


def distance(code):
    """The least weight of a string that turns what is stored, as Distance."""
    if code.kept == 0:
        raise BadNumber("kept", 0)
    weight = 1
    while True:
        for letters, mark in marked_by_weight(code.marks, 0, weight):
            # only the hidden bits are not all 0
            if 0 < mark < (1 << (2 * code.kept)):
                return Distance(weight, string_from(letters, 0))
        weight += 1


def lightest(code):
    """The table with the first string of the least weight for each syndrome."""
    found = {}
    weight = 0
    while len(found) < (1 << code.group.rank):
        for letters, mark in marked_by_weight(code.marks, 0, weight):
            syndrome = bit_tuple(mark >> (2 * code.kept), code.group.rank)
            if syndrome not in found:
                found[syndrome] = string_from(letters, 0)
        weight += 1
    return found


def check_table(code, table):
    """Refuse a table with a string of another size than the code."""
    for string in table.values():
        if string.size != code.size:
            raise Unlike("size")


def mended_mark(code, table, syndrome):
    """The mark of the string that a table has for a syndrome, told as a number; 0 for a missing one."""
    key = bit_tuple(syndrome, code.group.rank)
    return mark_of(code.marks, table[key]) if key in table else 0
