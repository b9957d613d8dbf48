"""[49] to [52]: counts by weight, turned counts, and codes that cannot be."""

import itertools
import unittest
from fractions import Fraction
from math import comb

from plain import (NO_SIZES, Made, all_letters, commute_with_all, group_list, mixed, refused, seeded, strings)
from keptqubits.codes import Code
from keptqubits.errors import BadNumber
from keptqubits.groups import Group
from keptqubits.linear import Nothing, greatest
from keptqubits.tables import distance
from keptqubits.weights import Forbidden, commuting_counts, counts, forbidden, shadow_counts, turned_counts


def weight(letters):
    return len(letters) - letters.count("I")


def listed(size, letters):
    found = [0] * (size + 1)
    for told in letters:
        found[weight(told)] += 1
    return tuple(found)


def multiple(size, j, i):
    """K(j, i) as the document tells it."""
    return sum((-1) ** s * 3 ** (j - s) * comb(i, s) * comb(size - i, j - s) for s in range(j + 1))


def turned(size, rank, row, sign=1):
    told = [Fraction(*value) if isinstance(value, tuple) else Fraction(value) for value in row]
    return [sum(sign ** i * multiple(size, j, i) * told[i] for i in range(size + 1)) / 2 ** rank
            for j in range(size + 1)]


def fractions(row):
    return [Fraction(*value) for value in row]


def is_ratio_row(row):
    return row.__class__ is tuple and all(
        value.__class__ is tuple and value == (Fraction(*value).numerator, Fraction(*value).denominator)
        and value[1] > 0 for value in row)


class CountsTest(unittest.TestCase):
    def test_small_groups_of_each_rank(self):
        source = seeded(41)
        for size in (1, 2, 3, 4, 5):
            for rank in range(size + 1):
                for _ in range(3):
                    made = Made(source, size, rank)
                    group = Group(size, mixed(source, size, made.group, rank + 1))
                    of_group = group_list(size, made.group)
                    self.assertEqual(counts(group), listed(size, of_group))
                    rows = [row.letters for row in made.group]
                    commuting = [letters for letters in all_letters(size) if commute_with_all(letters, rows)]
                    self.assertEqual(commuting_counts(group), listed(size, commuting))
                    shadow = [letters for letters in all_letters(size)
                              if all(commute_with_all(letters, [row]) == (weight(row) % 2 == 0) for row in of_group)]
                    told = shadow_counts(size, rank, counts(group))
                    self.assertEqual(told, tuple((number, 1) for number in listed(size, shadow)))

    def test_rank_twelve(self):
        source = seeded(42)
        for size in (12, 13, 18, 24):
            made = Made(source, size, 12)
            group = Group(size, made.group)
            told = counts(group)
            self.assertEqual(told, listed(size, group_list(size, made.group)))
            other = commuting_counts(group)
            self.assertEqual(sum(other), 4 ** size // 2 ** 12)
            self.assertEqual([Fraction(number) for number in other], turned(size, 12, told))
            self.assertTrue(all(number.__class__ is int for number in (*told, *other)))

    def test_no_strings_and_signs(self):
        self.assertEqual(counts(Group(3, [])), (1, 0, 0, 0))
        self.assertEqual(commuting_counts(Group(3, [])), (1, 9, 27, 27))
        self.assertEqual(counts(Group(2, strings("-XX -ZZ"))), (1, 0, 3))
        self.assertEqual(commuting_counts(Group(2, strings("-XX -ZZ"))), (1, 0, 3))
        five = Group(5, strings("XZZXI IXZZX XIXZZ ZXIXZ"))
        self.assertEqual((counts(five), commuting_counts(five)), ((1, 0, 0, 0, 15, 0), (1, 0, 0, 30, 15, 18)))


class TurnedTest(unittest.TestCase):
    def rows(self, source, size):
        yield [source.randint(-9, 9) for _ in range(size + 1)]
        yield [(source.randint(-9, 9), source.randint(1, 9)) for _ in range(size + 1)]
        yield [source.choice([0, -3, (0, 5), (6, 4), (-6, 4), (10 ** 30, 3), 10 ** 40]) for _ in range(size + 1)]

    def test_as_told(self):
        source = seeded(43)
        for size in (1, 2, 3, 5, 8, 12, 20):
            for rank in sorted({0, 1, size, 2 * size - 1, 2 * size, source.randint(0, 2 * size)}):
                for row in self.rows(source, size):
                    for given in (row, tuple(row)):
                        told, shadow = turned_counts(size, rank, given), shadow_counts(size, rank, given)
                        self.assertEqual(fractions(told), turned(size, rank, row))
                        self.assertEqual(fractions(shadow), turned(size, rank, row, -1))
                        self.assertTrue(is_ratio_row(told) and is_ratio_row(shadow))
                    back = turned_counts(size, 2 * size - rank, told)
                    self.assertEqual(fractions(back), [Fraction(*value) if isinstance(value, tuple) else value
                                                       for value in row])

    def test_rows_are_not_changed(self):
        row = [1, (2, 4), -1]
        turned_counts(2, 1, row)
        shadow_counts(2, 1, row)
        self.assertEqual(row, [1, (2, 4), -1])

    def test_errors(self):
        for call in (turned_counts, shadow_counts):
            for size in NO_SIZES:
                for rank, row in ((0, [1, 1]), (-1, None), (None, [])):
                    error = refused(self, BadNumber, call, size, rank, row)
                    self.assertEqual(error.what, "size")
                    self.assertIs(error.number, size)
            for rank in (-1, 7, 8, True, False, None, "0", 1.0, (1, 1), 10 ** 30):
                for row in ([1, 1, 1, 1], None, [1]):
                    error = refused(self, BadNumber, call, 3, rank, row)
                    self.assertEqual(error.what, "rank")
                    self.assertIs(error.number, rank)
            for row in ([], [1, 1, 1], [1] * 5, None, 4, "1111", b"1111", {0: 1, 1: 1, 2: 1, 3: 1}, {1, 2, 3, 4},
                        [1, 1, 1, True], [1, 1, 1, (1, 0)], [1, 1, 1, (1, -1)], [1, 1, 1, [1, 1]], [1.0, 1, 1, 1],
                        (1, 1, 1, (1, 1, 1)), (1, None, 1, 1), (1, (1, True), 1, 1), range(4)):
                error = refused(self, BadNumber, call, 3, 6, row)
                self.assertEqual(error.what, "counts")
                self.assertIs(error.number, row)
            self.assertEqual(len(call(3, 0, [1, 0, 0, 0])), 4)
            self.assertEqual(len(call(3, 6, [1, 0, 0, 0])), 4)


def rows_of(size, kept, d):
    """The rows of [51] in their order: (multiples of A[0] to A[size], right side, whether it is an equality)."""
    rank = size - kept
    bs = [[Fraction(multiple(size, j, i), 2 ** rank) for i in range(size + 1)] for j in range(size + 1)]
    gaps = [[b - (i == j) for i, b in enumerate(row)] for j, row in enumerate(bs)]
    found = [([Fraction(i == 0) for i in range(size + 1)], 1, True), ([Fraction(1)] * (size + 1), 2 ** rank, True)]
    found += [(gaps[j], 0, True) for j in range(1, d)]
    found += [(gaps[j], 0, False) for j in range(d, size + 1)]
    found += [([(-1) ** i * b for i, b in enumerate(row)], 0, False) for row in bs]
    return found


class ForbiddenTest(unittest.TestCase):
    def check(self, size, kept, d):
        told = forbidden(size, kept, d)
        if told is None:
            return False
        self.assertIs(told.__class__, Forbidden)
        self.assertTrue(is_ratio_row(told.prices))
        rows = rows_of(size, kept, d)
        prices = fractions(told.prices)
        self.assertEqual(len(prices), len(rows))
        for price, (_, _, equal) in zip(prices, rows):
            self.assertTrue(equal or price >= 0)
        for i in range(size + 1):
            self.assertLessEqual(sum(price * row[i] for price, (row, _, _) in zip(prices, rows)), 0)
        self.assertGreater(sum(price * right for price, (_, right, _) in zip(prices, rows)), 0)
        return True

    def test_all_small_ones(self):
        greatest = {}
        for size in range(1, 8):
            for kept in range(1, size + 1):
                barred = [self.check(size, kept, d) for d in range(1, size + 1)]
                # less distance asks for less
                self.assertEqual(barred, sorted(barred))
                greatest[size, kept] = barred.count(False)
                for d in range(1, size + 1):
                    self.assertTrue(barred[d - 1] or size - kept >= 2 * (d - 1))
        self.assertEqual([greatest[size, 1] for size in range(1, 8)], [1, 1, 1, 2, 3, 3, 3])
        self.assertEqual([greatest[size, 2] for size in range(2, 8)], [1, 1, 2, 2, 2, 2])
        self.assertEqual((greatest[6, 4], greatest[5, 3], greatest[7, 3]), (2, 1, 2))

    def test_all_that_fits(self):
        # whether any ratios fulfill the rows, asked of greatest for the rows as the tests tell them
        for size in range(1, 7):
            for kept in range(1, size + 1):
                for d in range(1, size + 1):
                    rows, right = [], []
                    for row, number, equal in rows_of(size, kept, d):
                        for sign in (-1, 1) if equal else (-1,):
                            rows.append([(sign * value.numerator, value.denominator) for value in row])
                            right.append(sign * number)
                    told = greatest(rows, right, [0] * (size + 1))
                    self.assertEqual(forbidden(size, kept, d) is not None, told.__class__ is Nothing)

    def test_three_places(self):
        self.assertTrue(self.check(3, 1, 2))
        self.assertFalse(self.check(3, 1, 1))

    def test_known_codes(self):
        for words in ("XZZXI IXZZX XIXZZ ZXIXZ", "XXXX ZZZZ", "XXXXXX ZZZZZZ", "XXXXXXXX ZZZZZZZZ", "ZZ",
                      "IIIXXXX IXXIIXX XIXIXIX IIIZZZZ IZZIIZZ ZIZIZIZ",
                      "XXXXXXXX ZZZZZZZZ IXIXYZYZ IXZYIXZY IYXZXZIY"):
            rows = strings(words)
            code = Code(rows[0].size, rows)
            self.assertIsNone(forbidden(code.size, code.kept, distance(code).number))

    def test_random_codes(self):
        source = seeded(44)
        for _ in range(30):
            size = source.randint(2, 6)
            made = Made(source, size, source.randint(0, size - 1))
            code = Code(size, made.group)
            self.assertIsNone(forbidden(size, code.kept, distance(code).number))

    def test_twelve_places(self):
        self.assertEqual([self.check(12, 1, d) for d in (4, 5, 6, 7)], [False, False, True, True])
        self.assertEqual([self.check(12, 6, d) for d in (2, 3, 4, 12)], [False, False, True, True])
        self.assertEqual([self.check(12, 12, d) for d in (1, 2, 12)], [False, True, True])
        self.assertEqual([self.check(11, kept, 5) for kept in (1, 2)], [False, True])

    def test_errors(self):
        for size in NO_SIZES:
            for kept, d in itertools.product((1, 0, None), repeat=2):
                error = refused(self, BadNumber, forbidden, size, kept, d)
                self.assertEqual((error.what, error.number is size), ("size", True))
        for kept in (0, -1, 5, True, None, "1", 1.0, (1,), 10 ** 30):
            for d in (1, 0, 5, None):
                error = refused(self, BadNumber, forbidden, 4, kept, d)
                self.assertEqual((error.what, error.number is kept), ("kept", True))
        for d in (0, -1, 5, True, False, None, "1", 2.0, [1]):
            error = refused(self, BadNumber, forbidden, 4, 4, d)
            self.assertEqual((error.what, error.number is d), ("distance", True))
        self.assertIsNone(forbidden(1, 1, 1))


if __name__ == "__main__":
    unittest.main()
