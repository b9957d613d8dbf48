"""Chances of errors that come at each place by itself, as polynomials, and which tables are best."""

from math import comb

from keptqubits.errors import BadNumber, Unlike
from keptqubits.kinds import is_number
from keptqubits.marks import all_marked, mark_of
from keptqubits.polysigns import never_below
from keptqubits.ratios import ratio_gap, ratio_of
from keptqubits.stringbits import bit_tuple, string_from
from keptqubits.tables import check_table, mended_mark
from keptqubits.wholes import common_bottom, whole


class Best:
    """A table that is best at some p, and its success there."""

    def __init__(self, table, chance):
        self.table = {syndrome: table[syndrome] for syndrome in table}
        self.chance = chance


class Better:
    """A syndrome, a string with it, and a p at which the string is better than that of a table."""

    def __init__(self, syndrome, string, chance):
        self.syndrome = tuple(syndrome)
        self.string = string
        self.chance = chance


class Weighed:
    """The chances of the classes of a code.

    A class has a mark and a *row*: bottom ** size times its chance is the sum of the numbers of the row, the number
    at each weight times p ** weight * (1 - p) ** (size - weight).
    """

    def __init__(self, code, shares):
        ratios = [ratio_of(share) for share in shares]
        self.size = code.size
        self.bottom = _power(common_bottom(ratios), code.size)
        self.rows = {}
        self.firsts = {}
        powers = [_powers(number, code.size) for number in [common_bottom(ratios), *whole(ratios)]]
        for letters, mark in all_marked(code.marks):
            if mark not in self.rows:
                self.rows[mark] = [0] * (code.size + 1)
                self.firsts[mark] = letters
            chance = 1
            for letter, row in zip("IXYZ", powers):
                chance = chance * row[letters.count(letter)]
            self.rows[mark][code.size - letters.count("I")] += chance


def class_chance(code, string, shares):
    """The chance of the class of a string, a polynomial."""
    if string.size != code.size:
        raise Unlike("size")
    _check_shares(shares)
    weighed = Weighed(code, shares)
    return _polynomial(weighed, weighed.rows[mark_of(code.marks, string)])


def success(code, table, shares):
    """The chance that the stored state comes back by a table, a polynomial."""
    check_table(code, table)
    _check_shares(shares)
    weighed = Weighed(code, shares)
    return _polynomial(weighed, _sum_of([_table_row(code, table, weighed, syndrome) for syndrome in _syndromes(code)]))


def best_table(code, shares, p):
    """A table that is best at p, as Best."""
    _check_shares(shares)
    if not is_number(p) or not _is_between(p):
        raise BadNumber("p", p)
    weighed = Weighed(code, shares)
    top, bottom = ratio_of(p)
    table = {}
    total = 0
    for syndrome in _syndromes(code):
        values = [(_value(weighed.rows[mark], top, bottom), mark) for mark in _marks_of(code, syndrome)]
        value, best = max(values)
        total += value
        table[bit_tuple(syndrome, code.group.rank)] = string_from(weighed.firsts[best], 0)
    return Best(table, ratio_of((total, weighed.bottom * _power(bottom, code.size))))


def always_best(code, table, shares):
    """None if a table is best at every p between 0 and 1, otherwise a Better."""
    check_table(code, table)
    _check_shares(shares)
    weighed = Weighed(code, shares)
    seen = {}
    for syndrome in _syndromes(code):
        mine = _table_row(code, table, weighed, syndrome)
        for mark in _marks_of(code, syndrome):
            gap = tuple([number - other for number, other in zip(mine, weighed.rows[mark])])
            if gap not in seen:
                seen[gap] = True
                chance = never_below(_coefficients(gap))
                if chance is not None:
                    told = bit_tuple(syndrome, code.group.rank)
                    return Better(told, string_from(weighed.firsts[mark], 0), chance)
    return None


def never_worse(one, two):
    """None if one polynomial is at least another at every p between 0 and 1, otherwise a p at which it is less."""
    for polynomial in (one, two):
        if not isinstance(polynomial, tuple) or [number for number in polynomial if not is_number(number)]:
            raise BadNumber("polynomial", polynomial)
    length = max(len(one), len(two))
    numbers = list(one) + [0] * (length - len(one))
    others = list(two) + [0] * (length - len(two))
    return never_below([ratio_gap(number, other) for number, other in zip(numbers, others)])


def _check_shares(shares):
    if not isinstance(shares, tuple) or len(shares) != 3 or [share for share in shares if not is_number(share)]:
        raise BadNumber("shares", shares)
    ratios = [ratio_of(share) for share in shares]
    tops = whole(ratios)
    if min(tops) < 0 or sum(tops) != common_bottom(ratios):
        raise BadNumber("shares", shares)


def _is_between(p):
    top, bottom = ratio_of(p)
    return 0 <= top <= bottom


def _power(number, exponent):
    return _powers(number, exponent)[exponent]


def _powers(number, most):
    """The powers of a number up to the exponent most."""
    found = [1]
    for _ in range(most):
        found.append(found[-1] * number)
    return found


def _syndromes(code):
    """The syndromes of a code, told as numbers."""
    return list(range(1 << code.group.rank))


def _marks_of(code, syndrome):
    """The marks of all classes with a syndrome."""
    return [(syndrome << (2 * code.kept)) + hidden for hidden in range(1 << (2 * code.kept))]


def _table_row(code, table, weighed, syndrome):
    """The row of the class of a table's string, zeros if it has another syndrome."""
    mark = mended_mark(code, table, syndrome)
    if mark >> (2 * code.kept) != syndrome:
        return [0] * (code.size + 1)
    return weighed.rows[mark]


def _sum_of(rows):
    return [sum([row[weight] for row in rows]) for weight in range(len(rows[0]))]


def _coefficients(row):
    """The numbers of the powers of p in the sum that a row tells."""
    size = len(row) - 1
    found = [0] * (size + 1)
    for weight, number in enumerate(row):
        for more in range(size - weight + 1):
            part = number * comb(size - weight, more)
            found[weight + more] += -part if more & 1 else part
    return found


def _polynomial(weighed, row):
    """The chance that a row tells, without zeros at the end."""
    found = _coefficients(row)
    while found and found[-1] == 0:
        found.pop()
    return tuple([ratio_of((number, weighed.bottom)) for number in found])


def _value(row, top, bottom):
    """The sum that a row tells at top / bottom, times bottom ** size."""
    size = len(row) - 1
    wrong, right = _powers(top, size), _powers(bottom - top, size)
    return sum([number * wrong[weight] * right[size - weight] for weight, number in enumerate(row)])
