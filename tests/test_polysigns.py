"""[8]: signs of polynomials."""

import copy
import itertools
import random
import unittest
from fractions import Fraction

from keptqubits import polysigns
from keptqubits.errors import BadNumber
from keptqubits.polysigns import never_below

HALF = Fraction(1, 2)


def times(*polys):
    total = [Fraction(1)]
    for poly in polys:
        longer = [Fraction(0)] * (len(total) + len(poly) - 1)
        for k, number in enumerate(total):
            for j, beside in enumerate(poly):
                longer[k + j] += number * beside
        total = longer
    return total


def power(poly, many):
    return times(*[poly] * many)


def minus(poly, number):
    return [poly[0] - number] + list(poly[1:])


def numbers_of(poly):
    """A polynomial of fractions as pairs and integers."""
    return [(number.numerator, number.denominator) for number in map(Fraction, poly)]


def value_at(poly, place):
    total = Fraction(0)
    for number in reversed(poly):
        total = total * place + number
    return total


P = [0, 1]
REST = [1, -1]


class Checks(unittest.TestCase):
    def check_below(self, poly, row=None):
        ratio = never_below(numbers_of(poly) if row is None else row)
        self.assertIs(ratio.__class__, tuple)
        top, bottom = ratio
        place = Fraction(top, bottom)
        self.assertEqual(ratio, (place.numerator, place.denominator))
        self.assertIs(top.__class__, int)
        self.assertIs(bottom.__class__, int)
        self.assertTrue(0 < place < 1, place)
        self.assertLess(value_at(poly, place), 0)
        return place

    def check_never(self, poly):
        self.assertIsNone(never_below(numbers_of(poly)))


    def check_on_a_grid(self, poly):
        """Where a polynomial is told to be nowhere below 0, no place of a narrow grid tells otherwise."""
        if never_below(numbers_of(poly)) is None:
            self.assertGreaterEqual(min(value_at(poly, Fraction(k, 100)) for k in range(1, 100)), 0)
        else:
            self.check_below(poly)


class SimpleTest(Checks):
    def test_nothing_and_zeros(self):
        self.assertIsNone(never_below([]))
        self.assertIsNone(never_below(()))
        for many in (1, 2, 25):
            self.assertIsNone(never_below([0] * many))
            self.assertIsNone(never_below([(0, 7)] * many))

    def test_one_number(self):
        for number in (1, 7, (1, 10 ** 60), 10 ** 60):
            self.assertIsNone(never_below([number]))
        for number in (-1, -7, (-1, 10 ** 60), -10 ** 60):
            self.check_below([Fraction(*number) if isinstance(number, tuple) else number], [number])

    def test_zeros_at_the_end(self):
        for poly in ([1, -1], [0, 1, -1], [Fraction(1, 4), -1, 1], [1]):
            for many in (1, 5, 20):
                self.check_never(list(poly) + [0] * many)
                self.check_below([-number for number in poly] + [0] * many)

    def test_lines(self):
        for low, slope in itertools.product(range(-3, 4), repeat=2):
            if min(low, low + slope) >= 0:
                self.check_never([low, slope])
            else:
                self.check_below([low, slope])

    def test_parabolas(self):
        # below 0 just if one of the ends or the turning point is; at the ends alone 0 does not count
        for low, slope, bend in itertools.product(range(-4, 5), repeat=3):
            poly = [low, slope, bend]
            least = min(low, low + slope + bend)
            if bend > 0 and 0 < -slope < 2 * bend:
                least = min(least, value_at(poly, Fraction(-slope, 2 * bend)))
            if least >= 0:
                self.check_never(poly)
            else:
                self.check_below(poly)

    def test_all_small_ones(self):
        # many of these lose several powers at once on the way to the number of their zeros
        for row in itertools.product(range(-3, 4), repeat=5):
            if row[0] > 0 and sum(row) > 0:
                if never_below(row) is None:
                    for k in range(1, 60):
                        value = sum(number * k ** power * 60 ** (4 - power) for power, number in enumerate(row))
                        self.assertGreaterEqual(value, 0, (row, k))
                else:
                    self.check_below(row, row)

    def test_three_numbers_far_apart(self):
        for first, second in itertools.combinations(range(1, 25), 2):
            for a, b in ((2, 2), (3, 3), (5, 6), (9, 10), (20, 20)):
                row = [1] + [0] * 24
                row[first], row[second] = -a, b
                self.check_on_a_grid(row)

    def test_row_is_not_changed(self):
        row = [(1, 4), -1, 1, 0]
        kept = copy.deepcopy(row)
        self.assertIsNone(never_below(row))
        self.assertEqual(row, kept)
        self.assertIsNone(never_below(tuple(row)))
        self.assertEqual(never_below([(2, 8), (-4, 3), 1]), never_below(((1, 4), (-8, 6), 1)))
        self.assertEqual(never_below.__module__, polysigns.__name__)


class SquaresTest(Checks):
    FACTORS = ([Fraction(-1, 3), 1], [Fraction(-5, 7), 1], [-HALF, 0, 1], [Fraction(-1, 5), 0, 1], [-HALF, 0, 0, 1],
               [Fraction(-1, 10), 1, -1], [2, 0, 1])

    def test_squares_with_zeros_inside(self):
        for one, other in itertools.product(self.FACTORS, repeat=2):
            square = times(one, one, other, other)
            self.check_never(square)
            self.check_below([-number for number in square])

    def test_squares_times_powers_of_p_and_the_rest(self):
        for factor in self.FACTORS:
            for first, second in itertools.product((0, 1, 2, 5), repeat=2):
                poly = times(factor, factor, power(P, first), power(REST, second))
                self.check_never(poly)
                self.check_below([-number for number in poly])

    def test_odd_powers_cross(self):
        for factor in self.FACTORS[:6]:
            self.check_below(factor)
            self.check_below(power(factor, 3))
            self.check_below([-number for number in power(factor, 3)])
            self.check_never(power(factor, 4))

    def test_slightly_moved_squares(self):
        for factor in self.FACTORS[:6]:
            for exponent in (3, 12, 40):
                self.check_below(minus(power(factor, 2), Fraction(1, 10 ** exponent)))
                self.check_never(minus(power(factor, 2), Fraction(-1, 10 ** exponent)))

    def test_zeros_outside_do_not_count(self):
        for poly in ([Fraction(3, 2), -1], [2, 1], times([1, 1], [3, -1]), times([Fraction(1, 10 ** 9), 1], [1, 1])):
            self.check_never(poly)
            self.check_never(times(poly, P, REST))
        self.check_never(times([-2, 1], [-3, 1]))
        self.check_below(times([-2, 1], [3, 1]))


class NarrowTest(Checks):
    def test_below_in_a_narrow_gap_only(self):
        for exponent in (2, 10, 30, 60):
            gap = Fraction(1, 10 ** exponent)
            for start in (Fraction(1, 3), HALF, Fraction(1, 1000), 1 - 2 * gap):
                place = self.check_below(times([-start, 1], [-start - gap, 1]))
                self.assertTrue(start < place < start + gap)

    def test_below_in_a_narrow_gap_between_irrational_ends(self):
        # (p * p - 1/2) ** 2 is less than the number next to the root of 1/2 alone
        poly = minus(power([-HALF, 0, 1], 2), Fraction(1, 10 ** 60))
        place = self.check_below(poly)
        self.assertLess(abs(place * place - HALF), Fraction(1, 10 ** 30))

    def test_gap_among_squares(self):
        squares = times(*[power([Fraction(-k, 13), 1], 2) for k in range(1, 12)])
        self.assertEqual(len(squares), 23)
        self.check_never(squares)
        gap = Fraction(1, 10 ** 25)
        self.check_below(times(squares, [Fraction(1, 9) - gap, Fraction(-2, 3), 1]))
        self.check_never(times(squares, [Fraction(1, 9) + gap, Fraction(-2, 3), 1]))
        self.check_never(times(squares, [Fraction(1, 9), Fraction(-2, 3), 1]))

    def test_below_next_to_zero_only(self):
        for exponent in (1, 20, 60):
            gap = Fraction(1, 10 ** exponent)
            for many in (0, 1, 4):
                place = self.check_below(times(power(P, many), [-gap, 1]))
                self.assertLess(place, gap)
                self.check_never(times(power(P, many), [gap, 1]))

    def test_below_next_to_one_only(self):
        for exponent in (1, 20, 60):
            gap = Fraction(1, 10 ** exponent)
            for many in (0, 1, 4):
                place = self.check_below(times(power(REST, many), [1 - gap, -1]))
                self.assertGreater(place, 1 - gap)
                self.check_never(times(power(REST, many), [1 + gap, -1]))

    def test_below_or_zero_at_the_ends_only(self):
        # what happens at 0 and 1 themselves does not count, nor outside
        self.check_never(times(P, REST))
        self.check_never(times(P, P, REST, REST, REST))
        self.check_never(times([0, 0, 1], [2, -1]))
        self.check_below(times(P, REST, [-1]))
        self.check_below(times(P, [-1, 1]))
        for many in range(1, 25):
            self.check_never(power(P, many))
            self.check_never(power(REST, many))
            self.check_below(minus(power(P, many), Fraction(1, 10 ** 6)))

    def test_many_zeros(self):
        # each second gap between neighboring zeros is below 0, if all zeros are single ones
        zeros = [Fraction(k, 26) for k in range(1, 25)]
        poly = times(*[[-zero, 1] for zero in zeros])
        self.assertEqual(len(poly), 25)
        self.check_below(poly)
        for narrow in range(0, 24, 4):
            # all zeros doubled but for one close pair
            gap = Fraction(1, 10 ** 18)
            single = times([-zeros[narrow], 1], [-zeros[narrow] - gap, 1])
            doubled = [power([-zero, 1], 2) for zero in zeros[1:12] if zero != zeros[narrow]]
            place = self.check_below(times(single, *doubled))
            self.assertTrue(zeros[narrow] < place < zeros[narrow] + gap)


class RandomTest(Checks):
    def test_built_from_known_factors(self):
        # the sign is told by the single zeros inside; squares and factors without zeros do not change it
        source = random.Random(81)
        seen = {True: 0, False: 0}
        for _ in range(150):
            squares = [power([-Fraction(source.randrange(1, 50), 50), 1], 2) for _ in range(source.randrange(5))]
            others = [source.choice(([1, 1], [1, 0, 1], [3, -1], P, REST, [1, -1, 1])) for _ in range(source.randrange(6))]
            single = sorted(set(Fraction(source.randrange(1, 60), 60) for _ in range(source.choice((0, 0, 1, 2, 3)))))
            poly = times(*squares, *others, *[[-zero, 1] for zero in single])
            sign = source.choice((1, -1))
            poly = [sign * number for number in poly]
            self.assertLessEqual(len(poly), 25)
            never = not single and sign == 1
            seen[never] += 1
            if never:
                self.check_never(poly)
            else:
                self.check_below(poly)
        self.assertGreater(min(seen.values()), 15)

    def test_long_numbers(self):
        source = random.Random(82)
        limit = 10 ** 60
        for length, bottoms in ((3, limit), (8, limit), (15, 2), (25, 2)):
            for _ in range(10):
                poly = [Fraction(source.randrange(-limit, limit), source.randrange(1, bottoms)) for _ in range(length)]
                self.check_on_a_grid(poly)
                half = poly[:(length + 1) // 2]
                square = times(half, half)
                self.check_never(square)
                self.check_below(minus(square, value_at(square, Fraction(source.randrange(1, 99), 99)) * 2 + 1))


class WrongTest(unittest.TestCase):
    def test_first_value_that_is_no_number(self):
        values = (True, False, None, "1", b"1", 1.0, [], [1, 2], (), (1,), (1, 0), (1, -2), (1, 2, 3), (True, 1), (1, True),
                  Fraction(1, 2), object())
        for k, value in enumerate(values):
            for row in ([value], [1, 2, value], [-1, value, values[k - 1]], [value, None, True], [0, 0, value, 0],
                        (value, (1, 2))):
                with self.assertRaises(BadNumber) as caught:
                    never_below(row)
                self.assertEqual(caught.exception.what, "ratio")
                self.assertIs(caught.exception.number, value)


if __name__ == "__main__":
    unittest.main()
