"""[4]: rows of bits."""

import copy
import itertools
import random
import unittest

from keptqubits.bitrows import bit_rank, combined, kernel_bits, reduced_bits


def added(one, other):
    return tuple((a + b) % 2 for a, b in zip(one, other))


def made_rows(rows, width):
    """All sums of some of the rows, by going through all of them."""
    made = {(0,) * width}
    for row in rows:
        made |= {added(row, other) for other in made}
    return made


def sum_at(rows, indexes, width):
    total = (0,) * width
    for index in indexes:
        total = added(total, rows[index])
    return total


def meets_evenly(one, other):
    return sum(a * b for a, b in zip(one, other)) % 2 == 0


def all_rows(width):
    return list(itertools.product((0, 1), repeat=width))


def random_rows(source, many, width):
    """Rows among which some are sums of others, equal, or zeros."""
    rows = []
    for _ in range(many):
        choice = source.randrange(5)
        if choice == 0 and len(rows) > 1:
            rows.append(added(source.choice(rows), source.choice(rows)))
        elif choice == 1 and rows:
            rows.append(source.choice(rows))
        elif choice == 2 and source.randrange(3) == 0:
            rows.append((0,) * width)
        else:
            rows.append(tuple(source.randrange(2) for _ in range(width)))
    return rows


def small_lists():
    """Lists of rows with their width: all short ones of width 0 to 2, and chosen ones of width 3 to 6."""
    for width in range(3):
        for many in range(4):
            for rows in itertools.product(all_rows(width), repeat=many):
                yield list(rows), width
    source = random.Random(41)
    for width in range(3, 7):
        for many in range(9):
            for _ in range(12):
                yield random_rows(source, many, width), width


class Checks(unittest.TestCase):
    def check_tuples(self, table, width):
        self.assertIs(table.__class__, tuple)
        for row in table:
            self.assertIs(row.__class__, tuple)
            self.assertEqual(len(row), width)
            for bit in row:
                self.assertIs(bit.__class__, int)
                self.assertIn(bit, (0, 1))

    def check_reduced(self, table, width):
        """That a table is a reduced one, by the words of the document."""
        self.check_tuples(table, width)
        pivots = []
        for row in table:
            self.assertIn(1, row)
            pivots.append(row.index(1))
        for earlier, later in zip(pivots, pivots[1:]):
            self.assertLess(earlier, later)
        for index, pivot in enumerate(pivots):
            self.assertEqual([row[pivot] for row in table], [int(k == index) for k in range(len(table))])


class ReducedTest(Checks):
    def test_small_ones_against_all_sums(self):
        for rows, width in small_lists():
            table = reduced_bits(rows)
            self.check_reduced(table, width)
            made = made_rows(rows, width)
            self.assertEqual(made_rows(table, width), made)
            self.assertEqual(2 ** len(table), len(made))
            self.assertEqual(bit_rank(rows), len(table))

    def test_told_ones(self):
        self.assertEqual(reduced_bits([(0, 1, 1), (1, 1, 0)]), ((1, 0, 1), (0, 1, 1)))
        self.assertEqual(reduced_bits([(1, 1, 1), (1, 1, 1), (0, 0, 1)]), ((1, 1, 0), (0, 0, 1)))

    def test_rows_that_make_nothing(self):
        for rows in ([], [()], [(), ()], [(0,)], [(0, 0, 0)] * 4, [(0,) * 200] * 200):
            self.assertEqual(reduced_bits(rows), ())
            self.assertEqual(bit_rank(rows), 0)

    def test_width_one(self):
        self.assertEqual(reduced_bits([(1,)]), ((1,),))
        self.assertEqual(reduced_bits([(0,), (1,), (1,), (0,)]), ((1,),))

    def test_equal_tables_for_equal_made_rows(self):
        source = random.Random(43)
        for _ in range(40):
            rows = random_rows(source, 8, 12)
            others = [sum_at(rows, range(k + 1), 12) for k in range(len(rows))]
            source.shuffle(others)
            self.assertEqual(reduced_bits(others), reduced_bits(rows))

    def test_large_ones(self):
        source = random.Random(44)
        for many, width in ((200, 200), (200, 150), (150, 200), (200, 1), (1, 200)):
            rows = random_rows(source, many, width)
            table = reduced_bits(rows)
            self.check_reduced(table, width)
            self.assertEqual(reduced_bits(table), table)
            self.assertEqual(reduced_bits(rows + list(table)), table)
            self.assertEqual(bit_rank(rows), len(table))
            for row in table:
                self.assertIsNotNone(combined(rows, row))

    def test_large_unit_rows_backwards(self):
        units = [tuple(int(k == place) for k in range(200)) for place in range(200)]
        sums = [sum_at(units, range(k + 1), 200) for k in range(200)]
        self.assertEqual(reduced_bits(units[::-1]), tuple(units))
        self.assertEqual(reduced_bits(sums[::-1]), tuple(units))
        self.assertEqual(bit_rank(sums), 200)


class CombinedTest(Checks):
    def check_indexes(self, rows, indexes, row):
        self.assertIs(indexes.__class__, tuple)
        for index in indexes:
            self.assertIs(index.__class__, int)
        self.assertEqual(list(indexes), sorted(set(indexes)))
        self.assertTrue(all(0 <= index < len(rows) for index in indexes))
        self.assertEqual(sum_at(rows, indexes, len(row)), row)

    def test_small_ones_against_all_sums(self):
        for rows, width in small_lists():
            made = made_rows(rows, width)
            for row in all_rows(width):
                indexes = combined(rows, row)
                if row in made:
                    self.check_indexes(rows, indexes, row)
                else:
                    self.assertIsNone(indexes)

    def test_row_of_zeros_is_made_of_none(self):
        for rows, width in small_lists():
            self.assertEqual(combined(rows, (0,) * width), ())
        self.assertEqual(combined([(1, 1)] * 200, (0, 0)), ())

    def test_no_rows(self):
        self.assertEqual(combined([], ()), ())
        self.assertEqual(combined([], (0, 0)), ())
        self.assertIsNone(combined([], (0, 1)))

    def test_large_ones(self):
        source = random.Random(45)
        for many, width in ((200, 200), (200, 150), (120, 200)):
            rows = random_rows(source, many, width)
            for _ in range(3):
                row = sum_at(rows, [k for k in range(many) if source.randrange(2)], width)
                self.check_indexes(rows, combined(rows, row), row)
            unmade = [row for row in ([0] * k + [1] + [0] * (width - k - 1) for k in range(width))
                      if bit_rank(rows + [tuple(row)]) > bit_rank(rows)][:2]
            for row in unmade:
                self.assertIsNone(combined(rows, tuple(row)))
            self.assertTrue(unmade or bit_rank(rows) == width)


class KernelTest(Checks):
    def test_small_ones_against_all_rows(self):
        for rows, width in small_lists():
            table = kernel_bits(rows, width)
            self.check_reduced(table, width)
            wanted = {other for other in all_rows(width) if all(meets_evenly(row, other) for row in rows)}
            self.assertEqual(made_rows(table, width), wanted)

    def test_no_rows(self):
        for width in (0, 1, 2, 5, 200):
            units = tuple(tuple(int(k == place) for k in range(width)) for place in range(width))
            self.assertEqual(kernel_bits([], width), units)
            self.assertEqual(kernel_bits([(0,) * width] * 3, width), units)
            self.assertEqual(kernel_bits(units, width), ())

    def test_large_ones(self):
        source = random.Random(46)
        for many, width in ((200, 200), (90, 200), (200, 90), (3, 200)):
            rows = random_rows(source, many, width)
            table = kernel_bits(rows, width)
            self.check_reduced(table, width)
            self.assertEqual(len(table), width - bit_rank(rows))
            for other in table:
                self.assertTrue(all(meets_evenly(row, other) for row in rows))
            self.assertEqual(kernel_bits(table, width), reduced_bits(rows))


class ArgumentsTest(unittest.TestCase):
    def test_arguments_are_not_changed(self):
        rows = [(1, 1, 0), (0, 1, 1), (1, 0, 1), (0, 0, 0)]
        kept = copy.deepcopy(rows)
        reduced_bits(rows)
        bit_rank(rows)
        combined(rows, (1, 0, 1))
        kernel_bits(rows, 3)
        self.assertEqual(rows, kept)

    def test_tuples_in_the_place_of_lists(self):
        rows = ((1, 1, 0), (0, 1, 1), (1, 0, 1))
        self.assertEqual(reduced_bits(rows), reduced_bits(list(rows)))
        self.assertEqual(bit_rank(rows), 2)
        self.assertEqual(combined(rows, (1, 0, 1)), combined(list(rows), (1, 0, 1)))
        self.assertEqual(kernel_bits(rows, 3), ((1, 1, 1),))

    def test_equal_calls_give_equal_results(self):
        source = random.Random(47)
        rows = random_rows(source, 60, 20)
        row = sum_at(rows, range(0, 60, 3), 20)
        self.assertEqual(combined(rows, row), combined(list(rows), tuple(row)))


if __name__ == "__main__":
    unittest.main()
