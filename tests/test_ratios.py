"""[6]: ratios."""

import random
import unittest
from fractions import Fraction

from keptqubits import ratios
from keptqubits.errors import BadNumber
from keptqubits.ratios import is_less, ratio_gap, ratio_of, ratio_product, ratio_share, ratio_sum


def fraction_of(number):
    if isinstance(number, tuple):
        return Fraction(number[0], number[1])
    return Fraction(number)


def pair_of(fraction):
    return fraction.numerator, fraction.denominator


def random_number(source):
    """An integer or a pair of up to sixty figures, perhaps below 0, often not in lowest terms."""
    limit = 10 ** source.choice((1, 2, 5, 20, 60))
    choice = source.randrange(4)
    if choice == 0:
        return source.randrange(-limit + 1, limit)
    common = source.choice((1, 2, 12, 10 ** 9)) if limit > 10 ** 9 else 1
    top = source.randrange(-limit + 1, limit) // common * common
    bottom = max(1, source.randrange(1, limit) // common) * common
    return top, bottom


SMALL = [-3, -1, 0, 1, 2, (0, 1), (0, 7), (-1, 2), (1, 2), (2, 4), (-6, 4), (6, 4), (3, 1), (-4, 2), (5, 3)]

NO_NUMBERS = [True, False, None, "", "1", "1/2", b"1", 1.0, 0.5, [], [1, 2], [1], {}, {1: 2}, (), (1,), (1, 2, 3), (1, 0),
              (0, 0), (1, -2), (0, -1), (-1, -1), (True, 2), (1, True), (1.0, 2), (1, 2.0), ("1", 2), (1, "2"),
              (None, 1), (1, None), ((1, 2), 3), (1, (2, 3)), Fraction(1, 2), object()]

BINARY = (ratio_sum, ratio_gap, ratio_product, ratio_share, is_less)


class ValuesTest(unittest.TestCase):
    def check_ratio(self, ratio, wanted):
        self.assertIs(ratio.__class__, tuple)
        self.assertEqual(ratio, pair_of(wanted))
        for part in ratio:
            self.assertIs(part.__class__, int)

    def check_pair(self, one, other):
        first, second = fraction_of(one), fraction_of(other)
        self.check_ratio(ratio_sum(one, other), first + second)
        self.check_ratio(ratio_gap(one, other), first - second)
        self.check_ratio(ratio_product(one, other), first * second)
        if second:
            self.check_ratio(ratio_share(one, other), first / second)
        self.assertIs(is_less(one, other), first < second)

    def test_small_ones(self):
        for one in SMALL:
            self.check_ratio(ratio_of(one), fraction_of(one))
            for other in SMALL:
                self.check_pair(one, other)

    def test_long_ones(self):
        source = random.Random(61)
        for _ in range(2000):
            one, other = random_number(source), random_number(source)
            self.check_ratio(ratio_of(one), fraction_of(one))
            self.check_pair(one, other)
            self.check_pair(one, one)

    def test_lowest_terms(self):
        many = 10 ** 59
        self.assertEqual(ratio_of((-6 * many, 4 * many)), (-3, 2))
        self.assertEqual(ratio_of((0, many)), (0, 1))
        self.assertEqual(ratio_of(0), (0, 1))
        self.assertEqual(ratio_of(-7), (-7, 1))
        self.assertEqual(ratio_sum((1, 6), (1, 3)), (1, 2))
        self.assertEqual(ratio_gap((1, 3), (2, 6)), (0, 1))
        self.assertEqual(ratio_product((-2, 3), (3, 2)), (-1, 1))
        self.assertEqual(ratio_share((1, 2), (-3, 4)), (-2, 3))
        self.assertEqual(ratio_share(0, -5), (0, 1))

    def test_is_less_of_equal_and_of_close_ones(self):
        self.assertIs(is_less((1, 2), (2, 4)), False)
        self.assertIs(is_less((-1, 2), (-2, 4)), False)
        near = (10 ** 59, 10 ** 60 - 1)
        self.assertIs(is_less((1, 10), near), True)
        self.assertIs(is_less(near, (1, 10)), False)
        self.assertIs(is_less((-1, 2), (1, 3)), True)
        self.assertIs(is_less(-2, -1), True)

    def test_arguments_are_not_changed_and_defined_here(self):
        one = (6, 4)
        for call in BINARY:
            call(one, one)
            self.assertEqual(call.__module__, ratios.__name__)
        self.assertEqual(ratio_of.__module__, ratios.__name__)
        self.assertEqual(one, (6, 4))


class WrongTest(unittest.TestCase):
    def check(self, call, arguments, what, value):
        with self.assertRaises(BadNumber) as caught:
            call(*arguments)
        self.assertEqual(caught.exception.what, what)
        self.assertIs(caught.exception.number, value)

    def test_no_numbers(self):
        for value in NO_NUMBERS:
            self.check(ratio_of, (value,), "ratio", value)
            for call in BINARY:
                for number in (0, 1, (-3, 6)):
                    self.check(call, (value, number), "ratio", value)
                    self.check(call, (number, value), "ratio", value)

    def test_at_both_the_first_one_is_told(self):
        for call in BINARY:
            for k, value in enumerate(NO_NUMBERS):
                self.check(call, (value, NO_NUMBERS[k - 1]), "ratio", value)

    def test_division_by_zero(self):
        for zero in (0, (0, 1), (0, 10 ** 60)):
            for one in (0, 5, (1, 2), (-1, 3)):
                self.check(ratio_share, (one, zero), "divisor", zero)

    def test_no_number_ahead_of_division_by_zero(self):
        for value in NO_NUMBERS:
            for zero in (0, (0, 5)):
                self.check(ratio_share, (value, zero), "ratio", value)


if __name__ == "__main__":
    unittest.main()
