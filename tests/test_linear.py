"""[7]: the greatest sum under bounds."""

import copy
import itertools
import random
import unittest
from fractions import Fraction

from keptqubits import linear
from keptqubits.errors import BadNumber
from keptqubits.linear import Endless, Nothing, Reached, greatest


def fraction_of(number):
    if isinstance(number, tuple):
        return Fraction(number[0], number[1])
    return Fraction(number)


def fractions_of(numbers):
    return [fraction_of(number) for number in numbers]


def dot(one, other):
    return sum((a * b for a, b in zip(one, other)), Fraction(0))


def solved(square, sides):
    """The one solution of equations, or None if there is not just one."""
    rows = [list(row) + [side] for row, side in zip(square, sides)]
    for column in range(len(rows)):
        pivots = [k for k in range(column, len(rows)) if rows[k][column] != 0]
        if not pivots:
            return None
        rows[column], rows[pivots[0]] = rows[pivots[0]], rows[column]
        rows[column] = [number / rows[column][column] for number in rows[column]]
        for k in range(len(rows)):
            if k != column:
                rows[k] = [number - rows[k][column] * beside for number, beside in zip(rows[k], rows[column])]
    return [row[-1] for row in rows]


def corners(rows, right, places):
    """All corners of the spots: where as many bounds as there are places are met at once."""
    bounds = [(fractions_of(row), fraction_of(side)) for row, side in zip(rows, right)]
    for place in range(places):
        bounds.append(([Fraction(-int(place == k)) for k in range(places)], Fraction(0)))
    for chosen in itertools.combinations(bounds, places):
        corner = solved([row for row, side in chosen], [side for row, side in chosen])
        if corner is not None and all(dot(row, corner) <= side for row, side in bounds):
            yield corner


class Checks(unittest.TestCase):
    def check_ratios(self, numbers, many):
        """The fractions of a tuple of so many ratios from 0 on."""
        self.assertIs(numbers.__class__, tuple)
        self.assertEqual(len(numbers), many)
        for number in numbers:
            self.check_ratio(number)
            self.assertGreaterEqual(number[0], 0)
        return fractions_of(numbers)

    def check_ratio(self, number):
        self.assertIs(number.__class__, tuple)
        self.assertIs(number[0].__class__, int)
        self.assertIs(number[1].__class__, int)
        fraction = Fraction(number[0], number[1])
        self.assertEqual(number, (fraction.numerator, fraction.denominator))

    def check_spots(self, spots, table, sides, places):
        spots = self.check_ratios(spots, places)
        for row, side in zip(table, sides):
            self.assertLessEqual(dot(row, spots), side)
        return spots

    def check(self, rows, right, worth):
        """What greatest tells, behind a check of all that the document asks of it."""
        told = greatest(rows, right, worth)
        table, sides, prices = [fractions_of(row) for row in rows], fractions_of(right), fractions_of(worth)
        columns = [[row[place] for row in table] for place in range(len(prices))]
        if isinstance(told, Reached):
            self.assertEqual(tuple(vars(told)), ("number", "spots", "weights"))
            spots = self.check_spots(told.spots, table, sides, len(prices))
            weights = self.check_ratios(told.weights, len(rows))
            self.check_ratio(told.number)
            self.assertEqual(dot(prices, spots), fraction_of(told.number))
            self.assertEqual(dot(sides, weights), fraction_of(told.number))
            for column, price in zip(columns, prices):
                self.assertGreaterEqual(dot(column, weights), price)
        elif isinstance(told, Endless):
            self.assertEqual(tuple(vars(told)), ("spots", "run"))
            self.check_spots(told.spots, table, sides, len(prices))
            run = self.check_ratios(told.run, len(prices))
            for row in table:
                self.assertLessEqual(dot(row, run), 0)
            self.assertGreater(dot(prices, run), 0)
        else:
            self.assertIsInstance(told, Nothing)
            self.assertEqual(tuple(vars(told)), ("weights",))
            weights = self.check_ratios(told.weights, len(rows))
            for column in columns:
                self.assertGreaterEqual(dot(column, weights), 0)
            self.assertLess(dot(sides, weights), 0)
        return told

    def check_reached(self, rows, right, worth, number):
        told = self.check(rows, right, worth)
        self.assertIsInstance(told, Reached)
        self.assertEqual(told.number, number)


class SmallTest(Checks):
    def test_one_place(self):
        self.check_reached([(2,)], [3], [1], (3, 2))
        self.check_reached([(2,)], [3], [-1], (0, 1))
        self.check_reached([(2,)], [0], [5], (0, 1))
        self.check_reached([(-2,)], [-3], [-1], (-3, 2))
        self.assertIsInstance(self.check([(-2,)], [-3], [1]), Endless)
        self.assertIsInstance(self.check([(2,)], [-3], [1]), Nothing)
        self.check_reached([(0,)], [0], [0], (0, 1))
        self.assertIsInstance(self.check([(0,)], [0], [1]), Endless)
        self.assertIsInstance(self.check([(0,)], [-1], [0]), Nothing)

    def test_ratios_in_any_terms(self):
        self.check_reached([((2, 4), (-3, 9)), (1, (4, 2))], [(10, 4), 7], [(6, 4), (1, 10 ** 30)],
                           self.check([((1, 2), (-1, 3)), (1, 2)], [(5, 2), 7], [(3, 2), (1, 10 ** 30)]).number)
        self.check_reached([((1, 3),)], [(1, 7)], [(2, 5)], (6, 35))

    def test_a_known_one(self):
        self.check_reached([(1, 0), (0, 2), (3, 2)], [4, 12, 18], [3, 5], (36, 1))

    def test_all_of_two_places_and_two_rows(self):
        kinds = set()
        for numbers in itertools.product((-1, 0, 1), repeat=8):
            rows = [numbers[0:2], numbers[2:4]]
            kinds.add(self.check(rows, numbers[4:6], numbers[6:8]).__class__)
        self.assertEqual(kinds, {Reached, Endless, Nothing})

    def test_against_all_corners(self):
        source = random.Random(71)
        kinds = {Reached: 0, Endless: 0, Nothing: 0}
        for _ in range(400):
            places, many = source.randrange(1, 4), source.randrange(1, 6)
            number = lambda: source.choice((source.randrange(-4, 5), (source.randrange(-9, 10), source.randrange(1, 5))))
            rows = [tuple(number() for _ in range(places)) for _ in range(many)]
            right = [number() for _ in range(many)]
            worth = [number() for _ in range(places)]
            told = self.check(rows, right, worth)
            kinds[told.__class__] += 1
            values = [dot(fractions_of(worth), corner) for corner in corners(rows, right, places)]
            if isinstance(told, Nothing):
                self.assertEqual(values, [])
            elif isinstance(told, Reached):
                self.assertEqual(max(values), fraction_of(told.number))
            else:
                self.assertNotEqual(values, [])
        self.assertGreater(min(kinds.values()), 30)

    def test_equal_rows(self):
        self.check_reached([(1, 1)] * 5, [3] * 5, [1, 2], (6, 1))
        self.check_reached([(1, 1)] * 3, [3, 2, 4], [1, 2], (4, 1))
        self.check_reached([(1, 1), (-1, -1)] * 3, [3, -3] * 3, [1, 2], (6, 1))
        self.check_reached([(1, 1), (-1, -1)], [3, -3], [-1, -2], (-3, 1))

    def test_rows_of_zeros(self):
        self.check_reached([(0, 0)] * 4, [0, 1, 0, 2], [0, -1], (0, 1))
        self.assertIsInstance(self.check([(0, 0)] * 4, [0, 1, 0, 2], [0, 1]), Endless)
        self.assertIsInstance(self.check([(0, 0)] * 4, [0, 1, -1, 2], [0, 1]), Nothing)
        self.check_reached([(0, 0), (1, 1), (0, 0)], [0, 5, 0], [1, 1], (5, 1))

    def test_rows_that_cannot_all_hold(self):
        self.assertIsInstance(self.check([(1, 1), (-1, 0), (0, -1)], [1, -1, -1], [1, 1]), Nothing)
        self.assertIsInstance(self.check([(1, 1), (-1, -1)], [2, -3], [-1, 0]), Nothing)
        self.assertIsInstance(self.check([(1, 0), (0, 1), (-1, -1)], [1, 1, (-2000001, 1000000)], [0, 0]), Nothing)
        self.check_reached([(1, 0), (0, 1), (-1, -1)], [1, 1, -2], [0, 1], (1, 1))

    def test_lists_and_tuples_and_no_change(self):
        rows, right, worth = [[1, 2], [(3, 6), -1]], [(4, 2), -1], [1, (2, 4)]
        kept = copy.deepcopy((rows, right, worth))
        told = self.check(rows, right, worth)
        self.assertEqual((rows, right, worth), kept)
        again = greatest(((1, 2), ((3, 6), -1)), ((4, 2), -1), (1, (2, 4)))
        self.assertEqual(vars(again), vars(told))


class CornersTest(Checks):
    def test_no_endless_going_round(self):
        # these go round without end if the steepest place is always taken
        self.check_reached([((1, 4), -60, (-1, 25), 9), ((1, 2), -90, (-1, 50), 3), (0, 0, 1, 0)], [0, 0, 1],
                           [(3, 4), -150, (1, 50), -6], (1, 20))
        self.check_reached([((1, 2), (-11, 2), (-5, 2), 9), ((1, 2), (-3, 2), (-1, 2), 1), (1, 0, 0, 0)], [0, 0, 1],
                           [10, -57, -9, -24], (1, 1))
        self.check_reached([((1, 4), -8, -1, 9), ((1, 2), -12, (-1, 2), 3), (0, 0, 1, 0)], [0, 0, 1],
                           [(3, 4), -20, (1, 2), -6], (5, 4))

    def test_all_rows_meet_in_one_corner(self):
        source = random.Random(72)
        for places, many in ((3, 12), (6, 20), (12, 12), (20, 40)):
            for _ in range(4):
                rows = [[source.randrange(-3, 4) for _ in range(places)] for _ in range(many)]
                worth = [source.randrange(-3, 10) for _ in range(places)]
                self.check(rows, [0] * many, worth)
                corner = [source.randrange(3) for _ in range(places)]
                self.check(rows, [dot(row, corner).numerator for row in rows], worth)

    def test_choosing_one_of_each(self):
        # the greatest sum of a square with one number of each row and each column
        source = random.Random(73)
        square = [[source.randrange(100) for _ in range(6)] for _ in range(6)]
        lines = [[k * 6 + other for other in range(6)] for k in range(6)]
        lines += [[other * 6 + k for other in range(6)] for k in range(6)]
        rows, right = [], []
        for line in lines:
            row = [int(place in line) for place in range(36)]
            rows += [row, [-number for number in row]]
            right += [1, -1]
        best = max(sum(square[k][order[k]] for k in range(6)) for order in itertools.permutations(range(6)))
        self.check_reached(rows, right, [number for row in square for number in row], (best, 1))

    def test_long_ways_round(self):
        # the steepest place leads through all 2 ** many corners of this one
        many = 40
        rows = [[2 * 10 ** (k - place) if place < k else int(place == k) for place in range(many)] for k in range(many)]
        right = [100 ** k for k in range(many)]
        self.check_reached(rows, right, [10 ** (many - 1 - place) for place in range(many)], (100 ** (many - 1), 1))


class LargeTest(Checks):
    def table(self, source, low, high):
        return [[source.randrange(low, high) for _ in range(60)] for _ in range(60)]

    def test_sixty_rows_and_places(self):
        source = random.Random(74)
        worth = [source.randrange(-20, 100) for _ in range(60)]
        rows = self.table(source, 0, 100)
        self.assertIsInstance(self.check(rows, [source.randrange(100, 1000) for _ in range(60)], worth), Reached)
        self.check(self.table(source, -50, 60), [source.randrange(-1000, 1000) for _ in range(60)], worth)
        self.check(self.table(source, -3, 4), [0] * 60, worth)
        rows = self.table(source, -50, 60)
        corner = [source.randrange(10) for _ in range(60)]
        sides = [dot(row, corner).numerator for row in rows]
        self.check(rows, sides, worth)
        self.check(rows, [side + source.randrange(20) for side in sides], worth)

    def test_sixty_with_ratios(self):
        source = random.Random(75)
        number = lambda: (source.randrange(-50, 60), source.randrange(1, 13))
        rows = [[number() for _ in range(60)] for _ in range(60)]
        corner = [Fraction(source.randrange(10), 3) for _ in range(60)]
        sides = [dot(fractions_of(row), corner) + source.randrange(3) for row in rows]
        right = [(side.numerator, side.denominator) for side in sides]
        worth = [(-abs(top), bottom) for top, bottom in (number() for _ in range(60))]
        self.assertNotIsInstance(self.check(rows, right, worth), Nothing)

    def test_sixty_equal_ones_and_one_place(self):
        self.check_reached([[1] * 60] * 60, [7] * 60, [1] * 59 + [2], (14, 1))
        self.assertIsInstance(self.check([[0] * 60] * 60, [0] * 60, [-1] * 59 + [1]), Endless)
        self.check_reached([[k] for k in range(1, 61)], [1] * 60, [1], (1, 60))
        self.check_reached([[1] * 60], [1], list(range(60)), (59, 1))


class WrongTest(unittest.TestCase):
    def check(self, rows, right, worth, what, value):
        with self.assertRaises(BadNumber) as caught:
            greatest(rows, right, worth)
        self.assertEqual(caught.exception.what, what)
        self.assertEqual(caught.exception.number, value)
        self.assertIs(caught.exception.number.__class__, value.__class__)

    def test_no_rows(self):
        for right, worth in (([], [1]), ([1], [1]), ([None], [None]), ([], [True, "x"])):
            self.check([], right, worth, "rows", 0)
            self.check((), right, worth, "rows", 0)

    def test_width_of_rows(self):
        self.check([(1,)], [1], [1, 2], "width", 1)
        self.check([(1, 2), (1, 2, 3), ()], [1], [1, 2], "width", 3)
        self.check([(1, 2), (), (1, 2, 3)], [1, 2, 3], [1, 2], "width", 0)
        # ahead of a wrong width of right, and of wrong numbers
        self.check([(None, True), (1, 2, "x")], [None] * 7, ["x", 2], "width", 3)

    def test_width_of_right(self):
        self.check([(1, 2)], [], [1, 2], "width", 0)
        self.check([(1, 2), (3, 4)], [1, 2, 3], [1, 2], "width", 3)
        self.check([(None, True)], [None, None], ["x", 2], "width", 2)

    def test_numbers(self):
        for value in (True, False, None, "1", 1.0, [1, 2], (1, 0), (1, -2), (1, 2, 3), (), (True, 1)):
            self.check([(1, value)], [1], [1, 2], "ratio", value)
            self.check([(1, 2), (value, "x")], [None], [1, 2], "width", 1)
            self.check([(1, 2), (value, "x")], [None, "y"], ["z", 2], "ratio", value)
            self.check([(1, 2), (3, 4)], [1, value], ["z", True], "ratio", value)
            self.check([(1, 2), (3, 4)], [value, "y"], [1, 2], "ratio", value)
            self.check([(1, 2), (3, 4)], [1, 2], [1, value], "ratio", value)
            self.check([(1, 2), (3, 4)], [1, 2], [value, "y"], "ratio", value)

    def test_order_of_numbers(self):
        self.check([(1, "a"), ("b", 2)], ["c", "d"], ["e", "f"], "ratio", "a")
        self.check([(1, 1), ("b", "a")], ["c", "d"], ["e", "f"], "ratio", "b")
        self.check([(1, 1), (1, 2)], [1, "d"], ["e", "f"], "ratio", "d")
        self.check([(1, 1), (1, 2)], [1, 1], [1, "f"], "ratio", "f")


class ClassesTest(unittest.TestCase):
    def test_attributes_in_order(self):
        spots, weights, run = ((1, 2),), ((0, 1), (3, 4)), ((5, 1),)
        self.assertEqual(vars(Reached((1, 2), spots, weights)), {"number": (1, 2), "spots": spots, "weights": weights})
        self.assertEqual(vars(Endless(spots, run)), {"spots": spots, "run": run})
        self.assertEqual(vars(Nothing(weights)), {"weights": weights})

    def test_lists_are_copied(self):
        given = [(1, 2)]
        told = Reached((1, 2), given, given), Endless(given, given), Nothing(given)
        given.append((3, 4))
        for one in told:
            for name in set(vars(one)) - {"number"}:
                self.assertEqual(getattr(one, name), ((1, 2),))

    def test_told_apart_and_not_equal(self):
        told = [Reached((1, 2), (), ()), Endless((), ()), Nothing(())]
        for one in told:
            self.assertEqual([isinstance(one, kind) for kind in (Reached, Endless, Nothing)],
                             [one is other for other in told])
        for value in (Reached, Endless, Nothing, greatest):
            self.assertEqual(value.__module__, linear.__name__)


if __name__ == "__main__":
    unittest.main()
