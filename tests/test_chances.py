"""[44], [45], [46], [47], [48]: chances of errors, and the best tables."""

import itertools
import math
import unittest
from fractions import Fraction

import plain
from plain import Made, refused, seeded, string, strings

from keptqubits import chances
from keptqubits.chances import Best, Better, always_best, best_table, class_chance, never_worse, success
from keptqubits.codes import Code
from keptqubits.errors import BadNumber, Unlike
from keptqubits.paulis import Pauli
from keptqubits.sorts import Sort
from keptqubits.tables import lightest, parted

FIVE = "XZZXI IXZZX XIXZZ ZXIXZ"

THIRDS = ((1, 3), (1, 3), (1, 3))
SHARES = [THIRDS, (1, 0, 0), (0, 1, 0), (0, 0, 1), ((1, 2), (1, 2), 0), ((1, 2), 0, (2, 4)), (0, (3, 4), (2, 8)),
          ((1, 7), (2, 7), (4, 7)), ((3, 6), (1, 4), (25, 100)), ((0, 5), (5, 5), (0, 1)), ((2, 5), (2, 5), (1, 5)),
          ((9, 10), (1, 100), (9, 100))]

NO_SHARES = (None, 1, True, "", "111", [(1, 3), (1, 3), (1, 3)], [1, 0, 0], (), (1,), (1, 0), (1, 0, 0, 0), ((1, 2), (1, 2)),
             (1, 0, 1), (0, 0, 0), ((1, 3), (1, 3), (1, 4)), (2, -1, 0), ((3, 2), (-1, 2), 0), (1, True, 0), (1, False, 0),
             (1, None, 0), ((1, 0), 0, 0), (0, (1, 0), 1), ((-1, -1), 0, 0), ((1, -1), 1, 1), (1.0, 0, 0), (0.5, 0.5, 0),
             ([1, 2], [1, 2], 0), ("1", 0, 0), ((1, 2, 3), 0, 1), ((1,), 0, 0), ((True, 1), 0, 0), ((1, True), 0, 0),
             {0: 1, 1: 0, 2: 0}, ((1, 3), (1, 3), (1, 3), 0), ((1, 2), (1, 2), (1, 2)), ((0, 1), (0, 1), (0, 1)), object())

NO_CHANCES = (None, True, False, -1, 2, (3, 2), (-1, 2), (1, 0), (1, -2), (-1, -2), 0.5, 1.0, "1", "", [1, 2], (1, 2, 3),
              (1,), (), ((1, 2),), (True, 2), (1, True), (0, True), ("1", 2), {}, object(), 10 ** 30, (10 ** 30, 10 ** 30 - 1))

NO_POLYNOMIALS = (None, 0, 1, True, "", "1", [], [1, 2], [(1, 2)], {}, {0: 1}, set(), (True,), (False,), (1, True), (None,), (1.0,),
                  ("1",), ((1, 0),), ((1, -2),), ((-1, -2),), (1, (2, 3, 4)), (1, (2,)), ([1, 2],), (1, [1, 2]), ((1.0, 2),),
                  ((True, 2),), ((1, True),), ((),), (((1, 2), 3),), range(2), object(), b"12", (b"1",))


def fraction(number):
    return Fraction(*number) if isinstance(number, tuple) else Fraction(number)


def plus(one, other):
    length = max(len(one), len(other))
    return [a + b for a, b in zip(one + [0] * (length - len(one)), other + [0] * (length - len(other)))]


def by(one, other):
    found = [Fraction(0)] * (len(one) + len(other) - 1)
    for at, a in enumerate(one):
        for beside, b in enumerate(other):
            found[at + beside] += a * b
    return found


def value_at(poly, p):
    return sum((number * p ** power for power, number in enumerate(poly)), Fraction(0))


def told_poly(poly):
    """A list of fractions as the document tells a polynomial."""
    while poly and poly[-1] == 0:
        poly = poly[:-1]
    return tuple((Fraction(number).numerator, Fraction(number).denominator) for number in poly)


def letters_chance(letters, shares):
    """The chance of a string, by [44], as a list of fractions."""
    found = [Fraction(1)]
    for letter in letters:
        if letter == "I":
            found = by(found, [Fraction(1), Fraction(-1)])
        else:
            found = by(found, [Fraction(0), fraction(shares["XYZ".index(letter)])])
    return found


class Listed:
    """The classes of a code and their chances, by lists of all strings."""

    def __init__(self, size, group, gauge, shares, code=None):
        self.size, self.shares = size, shares
        self.code = code if code is not None else Code(size, group, gauge)
        gauge_letters = plain.span_list(size, [*group, *gauge])
        rows = [row.letters for row in self.code.group.rows]
        self.chances, self.classes, self.syndromes = {}, {}, {}
        for letters in plain.all_letters(size):
            if letters not in self.classes:
                among = [plain.letters_times(letters, other) for other in gauge_letters]
                total = [Fraction(0)]
                for one in among:
                    self.classes[one] = letters
                    total = plus(total, letters_chance(one, shares))
                self.chances[letters] = total
                self.syndromes[letters] = tuple(int(not plain.letters_commute(letters, row)) for row in rows)

    def chance(self, letters):
        """The chance of the class of a string."""
        return self.chances[self.classes[letters]]

    def syndrome(self, letters):
        return self.syndromes[self.classes[letters]]

    def all_syndromes(self):
        return sorted(set(self.syndromes.values()))

    def table_chance(self, table, syndrome):
        """The chance of the class of what a table does with a syndrome, as far as it has it."""
        told = table[syndrome].letters if syndrome in table else "I" * self.size
        return self.chance(told) if self.syndrome(told) == syndrome else [Fraction(0)]

    def success(self, table):
        total = [Fraction(0)]
        for syndrome in self.all_syndromes():
            total = plus(total, self.table_chance(table, syndrome))
        return total

    def best_at(self, p):
        """The greatest success at p."""
        total = Fraction(0)
        for syndrome in self.all_syndromes():
            total += max(value_at(chance, p) for letters, chance in self.chances.items()
                         if self.syndromes[letters] == syndrome)
        return total

    def is_best_at(self, table, p):
        return value_at(self.success(table), p) == self.best_at(p)


def some_listed(seed, sizes, each=1):
    source = seeded(seed)
    for made, gauge in plain.some_made(seed, sizes, each):
        yield Listed(made.size, made.group, gauge, source.choice(SHARES))


def some_tables(source, listed):
    """Tables with all, some and no syndromes, with strings of other syndromes, with keys that are none."""
    letters = source.sample(plain.all_letters(listed.size), 4 ** listed.size)
    right = {listed.syndrome(one): string(one, source.choice((0, 2))) for one in letters}
    yield {}
    yield right
    yield {key: told for key, told in right.items() if source.random() < 0.5}
    yield {key: string(source.choice(letters), source.choice((0, 2))) for key in right}
    yield {**right, "none": Pauli("X" * listed.size), (5,): Pauli("I" * listed.size), None: Pauli("Z" * listed.size)}
    yield lightest(listed.code)


class Checks(unittest.TestCase):
    def check_poly(self, told, wanted):
        """That a polynomial is told as [44] says."""
        self.assertEqual(told, told_poly(wanted))
        self.assertIs(told.__class__, tuple)
        for number in told:
            self.assertIs(number.__class__, tuple)
            self.assertTrue(all(part.__class__ is int for part in number))


class ClassChanceTest(Checks):
    def test_all_strings_of_small_codes(self):
        for listed in some_listed(91, (1, 2), 6):
            for told in plain.all_strings(listed.size):
                self.check_poly(class_chance(listed.code, told, listed.shares), listed.chance(told.letters))
        for shares in SHARES:
            listed = Listed(3, strings("ZZI -IZZ"), [], shares)
            for letters in plain.all_letters(3):
                self.check_poly(class_chance(listed.code, string(letters), shares), listed.chance(letters))

    def test_some_strings_of_larger_codes(self):
        source = seeded(92)
        for listed in some_listed(93, (3, 4)):
            for letters in source.sample(plain.all_letters(listed.size), 4) + ["I" * listed.size]:
                told = string(letters, source.randrange(4))
                self.check_poly(class_chance(listed.code, told, listed.shares), listed.chance(letters))

    def test_six_places(self):
        made = Made(seeded(94), 6, 3, 2)
        for shares in (THIRDS, (1, 0, 0), SHARES[7]):
            listed = Listed(6, made.group, made.gauge, shares)
            for letters in ("IIIIII", "XYZIXY", "ZIIIII"):
                self.check_poly(class_chance(listed.code, Pauli(letters), shares), listed.chance(letters))

    def test_all_chances_together_are_1(self):
        for listed in some_listed(95, (1, 2, 3)):
            total = [Fraction(0)]
            for letters in listed.chances:
                told = class_chance(listed.code, string(letters), listed.shares)
                total = plus(total, [fraction(number) for number in told])
            self.assertEqual(told_poly(total), ((1, 1),))

    def test_known_chances(self):
        one = Code(1, [])
        self.assertEqual(class_chance(one, Pauli("I"), THIRDS), ((1, 1), (-1, 1)))
        self.assertEqual(class_chance(one, Pauli("-iY"), ((1, 2), (2, 6), (1, 6))), ((0, 1), (1, 3)))
        # a share of 0 makes the polynomial 0
        self.assertEqual(class_chance(one, Pauli("Z"), (1, 0, 0)), ())
        self.assertEqual(class_chance(one, Pauli("X"), (1, 0, 0)), ((0, 1), (1, 1)))
        # all strings are of one class: 1, without zeros at its end
        self.assertEqual(class_chance(Code(1, [], strings("X Z")), Pauli("Y"), THIRDS), ((1, 1),))
        self.assertEqual(class_chance(Code(2, strings("XX")), Pauli("-IX"), (1, 0, 0)), ((0, 1), (2, 1), (-2, 1)))
        self.assertEqual(class_chance(Code(2, strings("XX ZZ")), Pauli("II"), THIRDS), ((1, 1), (-2, 1), (4, 3)))


class SuccessTest(Checks):
    def test_tables_of_small_codes(self):
        source = seeded(96)
        for listed in some_listed(97, (1, 2, 3), 3):
            for table in some_tables(source, listed):
                self.check_poly(success(listed.code, table, listed.shares), listed.success(table))

    def test_some_of_four_to_six_places(self):
        source = seeded(98)
        for listed in some_listed(99, (4,)):
            for table in some_tables(source, listed):
                self.check_poly(success(listed.code, table, listed.shares), listed.success(table))
        made = Made(source, 6, 4, 1)
        listed = Listed(6, made.group, made.gauge, SHARES[7])
        for table in some_tables(source, listed):
            self.check_poly(success(listed.code, table, listed.shares), listed.success(table))

    def test_known_tables(self):
        three = Code(3, strings("ZZI IZZ"), hidden=[strings("XXX ZII")])
        # all errors of at most one X come back
        self.assertEqual(success(three, lightest(three), (1, 0, 0)), ((1, 1), (0, 1), (-3, 1), (2, 1)))
        self.assertEqual(success(three, {}, (1, 0, 0)), ((1, 1), (-3, 1), (3, 1), (-1, 1)))
        five = Code(5, strings(FIVE))
        self.assertEqual(success(five, {}, THIRDS)[:2], ((1, 1), (-5, 1)))
        self.assertEqual(success(five, lightest(five), THIRDS)[:2], ((1, 1), (0, 1)))
        # a string of another syndrome, and I in the place of one, count as nothing
        self.assertEqual(success(three, {(0, 0): Pauli("XII")}, (1, 0, 0)), ())
        self.assertEqual(success(three, {key: Pauli("III") for key in itertools.product((0, 1), repeat=2)}, (1, 0, 0)),
                         success(three, {}, (1, 0, 0)))
        self.assertEqual(success(Code(1, [], strings("X Z")), {}, THIRDS), ((1, 1),))
        self.assertEqual(success(Code(1, []), {(): Pauli("-X")}, (0, 1, 0)), ())


class BestTest(Checks):
    def check_best(self, listed, p):
        told = best_table(listed.code, listed.shares, p)
        self.assertIs(told.__class__, Best)
        self.assertIs(told.table.__class__, dict)
        for key, one in told.table.items():
            self.assertIn(key, listed.all_syndromes())
            self.assertIs(one.__class__, Pauli)
            self.assertEqual(one.size, listed.size)
            self.assertIn(one.phase, (0, 2))
        best = listed.best_at(fraction(p))
        self.assertEqual(told.chance, (best.numerator, best.denominator))
        self.assertIs(told.chance.__class__, tuple)
        self.assertEqual(value_at(listed.success(told.table), fraction(p)), best)
        again = best_table(listed.code, listed.shares, p)
        self.assertEqual((again.table, again.chance), (told.table, told.chance))
        return told

    def test_small_codes(self):
        for listed in some_listed(101, (1, 2, 3), 2):
            for p in (0, 1, (1, 2), (2, 4), (1, 3), (99, 100), (1, 10 ** 6), (0, 7), (5, 5), (3, 4)):
                self.check_best(listed, p)

    def test_larger_codes(self):
        source = seeded(102)
        for listed in some_listed(103, (4,)):
            for p in ((1, 10), (source.randrange(1, 50), 50)):
                self.check_best(listed, p)
        for size, rank, gauged in ((6, 5, 0), (6, 3, 1), (5, 4, 0)):
            made = Made(source, size, rank, gauged)
            self.check_best(Listed(size, made.group, made.gauge, SHARES[7]), (2, 7))

    def test_no_table_is_better(self):
        for shares in (THIRDS, (1, 0, 0), SHARES[7]):
            listed = Listed(2, strings("ZZ"), [], shares)
            for p in ((1, 5), (1, 2), (4, 5), (19, 20)):
                told = best_table(listed.code, shares, p)
                values = []
                for one, other in itertools.product(plain.all_letters(2), repeat=2):
                    table = {(0,): string(one), (1,): string(other)}
                    values.append(value_at(listed.success(table), fraction(p)))
                self.assertEqual(fraction(told.chance), max(values))

    def test_known_chances(self):
        three = Code(3, strings("ZZI IZZ"))
        self.assertEqual(best_table(three, (1, 0, 0), (1, 10)).chance, (243, 250))
        # all three X are the rule at 9/10
        self.assertEqual(best_table(three, (1, 0, 0), (9, 10)).chance, (243, 250))
        self.assertEqual(best_table(three, THIRDS, 0).chance, (1, 1))
        self.assertEqual(best_table(three, (1, 0, 0), 1).chance, (1, 1))
        self.assertEqual(best_table(Code(1, []), THIRDS, 1).chance, (1, 3))
        self.assertEqual(best_table(Code(1, []), THIRDS, (1, 2)).chance, (1, 2))

    def test_wrong_chances(self):
        for code in (Code(1, []), Code(3, strings("ZZI IZZ"))):
            for p in NO_CHANCES:
                error = refused(self, BadNumber, best_table, code, THIRDS, p)
                self.assertEqual(error.what, "p")
                self.assertIs(error.number, p)


def touching_code():
    """A code, shares and a string for which the class of I and that of the string are alike at one irrational p only.

    With t = p / (1 - p) the gap is (1 - p) ** 4 times (1 - t * t / 2) ** 2.
    """
    return Code(4, strings("XYXY ZZII IIZZ")), ((1, 2), (1, 2), 0), Pauli("XYII")


class AlwaysBestTest(Checks):
    # close together near the ends and near the middle
    SAMPLES = [Fraction(k, 60) for k in range(1, 60)] + [Fraction(1, 10 ** k) for k in range(3, 8)]

    def check_always(self, listed, table):
        """That a told Better is one, and that the table is best at all samples if there is none."""
        told = always_best(listed.code, table, listed.shares)
        if told is None:
            wanted = listed.success(table)
            for p in self.SAMPLES + [1 - p for p in self.SAMPLES[-5:]]:
                self.assertEqual(value_at(wanted, p), listed.best_at(p), p)
            return True
        self.assertIs(told.__class__, Better)
        self.assertIn(told.syndrome, listed.all_syndromes())
        self.assertIs(told.syndrome.__class__, tuple)
        self.assertIs(told.string.__class__, Pauli)
        self.assertIn(told.string.phase, (0, 2))
        self.assertEqual(listed.syndrome(told.string.letters), told.syndrome)
        p = fraction(told.chance)
        self.assertEqual(told.chance, (p.numerator, p.denominator))
        self.assertTrue(0 < p < 1)
        self.assertGreater(value_at(listed.chance(told.string.letters), p),
                           value_at(listed.table_chance(table, told.syndrome), p))
        again = always_best(listed.code, table, listed.shares)
        self.assertEqual((again.syndrome, again.string, again.chance), (told.syndrome, told.string, told.chance))
        return False

    def test_small_codes(self):
        source = seeded(104)
        seen = [0, 0]
        for listed in some_listed(105, (1, 2, 3), 2):
            tables = list(some_tables(source, listed))
            tables += [best_table(listed.code, listed.shares, p).table for p in ((1, 50), (1, 2), (49, 50))]
            for table in tables:
                seen[self.check_always(listed, table)] += 1
        self.assertGreater(min(seen), 40)

    def test_some_of_four_to_six_places(self):
        source = seeded(106)
        for size, rank, gauged in ((4, 4, 0), (4, 3, 0), (4, 2, 1), (4, 0, 4), (5, 4, 0), (6, 3, 1)):
            made = Made(source, size, rank, gauged)
            listed = Listed(size, made.group, made.gauge, source.choice(SHARES))
            for table in ({}, lightest(listed.code), best_table(listed.code, listed.shares, (1, 3)).table):
                self.check_always(listed, table)

    def test_best_everywhere(self):
        # one class for each syndrome
        full = Code(2, strings("XX ZZ"))
        self.assertIsNone(always_best(full, lightest(full), THIRDS))
        gauged = Code(1, [], strings("X Z"))
        self.assertIsNone(always_best(gauged, {}, THIRDS))
        # the Z of a share 0 never come
        self.assertIsNone(always_best(Code(1, strings("X")), {(1,): Pauli("Z")}, (1, 0, 0)))
        self.assertIsNone(always_best(Code(2, strings("XX")), {}, (1, 0, 0)))

    def test_best_nowhere(self):
        for listed, table in ((Listed(1, strings("Z"), [], (1, 0, 0)), {}),
                              (Listed(1, strings("Z"), [], THIRDS), {(1,): Pauli("Z")}),
                              (Listed(2, strings("ZZ"), [], THIRDS), {(0,): Pauli("XI"), (1,): Pauli("XI")}),
                              (Listed(3, strings("ZZI IZZ"), [], THIRDS), {})):
            self.assertFalse(self.check_always(listed, table))
            self.assertTrue(all(not listed.is_best_at(table, p) for p in self.SAMPLES))

    def test_missing_syndromes(self):
        # I has the syndrome 0 alone: for any other one a missing string is worth nothing
        listed = Listed(1, strings("Z"), [], (1, 0, 0))
        told = always_best(listed.code, {}, listed.shares)
        self.assertEqual(told.syndrome, (1,))
        self.assertIsNone(always_best(listed.code, {(1,): Pauli("X")}, listed.shares))
        self.assertIsNone(always_best(listed.code, {(1,): Pauli("-Y"), (0,): Pauli("-Z")}, listed.shares))

    def test_up_to_some_p_only(self):
        # up to 1/2, where t = p / (1 - p) is 1: III against XXX
        for words, shares, letter in (("ZZI IZZ", (1, 0, 0), "X"), ("XXI IXX", (0, 0, 1), "Z")):
            listed = Listed(3, strings(words), [], shares)
            table = parted(listed.code, Sort(3, f"weight 1\nletters {letter}")).table
            self.assertFalse(self.check_always(listed, table))
            self.assertGreater(fraction(always_best(listed.code, table, shares).chance), Fraction(1, 2))
            self.assertTrue(listed.is_best_at(table, Fraction(1, 2)))
            self.assertFalse(listed.is_best_at(table, Fraction(51, 100)))
        # up to 3/4: I against each of the letters
        listed = Listed(1, [], [], THIRDS)
        self.assertFalse(self.check_always(listed, {}))
        self.assertGreater(fraction(always_best(listed.code, {}, THIRDS).chance), Fraction(3, 4))
        # up to an irrational p, the square root of 2 for t: II, ZZ with the chance 1, XX, YY with t * t / 2
        listed = Listed(2, strings("ZZ"), [], ((1, 2), (1, 2), 0))
        table = {(1,): Pauli("XI")}
        self.assertFalse(self.check_always(listed, table))
        told = always_best(listed.code, table, listed.shares)
        self.assertEqual(told.syndrome, (0,))
        self.assertGreater(fraction(told.chance), Fraction(5857, 10 ** 4))
        self.assertTrue(listed.is_best_at(table, Fraction(5857, 10 ** 4)))
        self.assertFalse(listed.is_best_at(table, Fraction(5858, 10 ** 4)))

    def test_best_behind_some_p_only(self):
        listed = Listed(3, strings("ZZI IZZ"), [], (1, 0, 0))
        table = {key: Pauli("XXX").times(told) for key, told in lightest(listed.code).items()}
        self.assertFalse(self.check_always(listed, table))
        self.assertLess(fraction(always_best(listed.code, table, (1, 0, 0)).chance), Fraction(1, 2))

    def test_alike_at_one_ratio_only(self):
        # (1 - p) ** 2 + p ** 2 and 2 * p * (1 - p) are alike at 1/2 only
        code, shares = Code(2, strings("XX")), (1, 0, 0)
        gap = [fraction(one) - fraction(other) for one, other in zip(class_chance(code, Pauli("II"), shares),
                                                                     ((0, 1), (2, 1), (-2, 1)))]
        self.assertEqual(gap, [1, -4, 4])
        self.assertIsNone(always_best(code, {}, shares))
        self.assertIsNone(always_best(code, {(0,): Pauli("-XX")}, shares))
        told = always_best(code, {(0,): Pauli("XI")}, shares)
        self.assertEqual((told.syndrome, fraction(told.chance) == Fraction(1, 2)), ((0,), False))

    def test_alike_at_one_irrational_p_only(self):
        code, shares, other = touching_code()
        listed = Listed(4, strings("XYXY ZZII IIZZ"), [], shares, code)
        gap = plus(listed.chance("IIII"), [-number for number in listed.chance(other.letters)])
        # with t = p / (1 - p): (1 - t * t / 2) ** 2, so t is the square root of 2
        self.assertEqual(told_poly(gap), told_poly(by([1, -2, Fraction(1, 2)], [1, -2, Fraction(1, 2)])))
        root = 2 - math.sqrt(2)
        self.assertLess(value_at(gap, Fraction(root)), Fraction(1, 10 ** 12))
        self.assertIsNone(never_worse(class_chance(code, Pauli("IIII"), shares), class_chance(code, other, shares)))
        # I is best for the syndrome (0, 0, 0); no string is best everywhere for (1, 0, 0)
        table = best_table(code, shares, (1, 2)).table
        self.assertFalse(self.check_always(listed, {**table, (0, 0, 0): Pauli("IIII")}))
        self.assertEqual(always_best(code, {**table, (0, 0, 0): Pauli("IIII")}, shares).syndrome, (1, 0, 0))
        # the other one is worse nearly everywhere, though alike there
        self.assertIsNotNone(never_worse(class_chance(code, other, shares), class_chance(code, Pauli("IIII"), shares)))

    def test_worse_between_two_close_places_only(self):
        # with t = p / (1 - p) the gap is (1 - t) * (1 - t * (n - 1) / n): below 0 between 1/2 and n / (2 * n - 1)
        code = Code(2, [], strings("XX -ZI"))
        for n in (2, 10, 1000, 10 ** 6, 10 ** 12):
            shares = ((n - 1, n), (1, n), 0)
            listed = Listed(2, [], strings("XX -ZI"), shares, code)
            self.assertFalse(self.check_always(listed, {}))
            told = always_best(code, {}, shares)
            self.assertTrue(Fraction(1, 2) < fraction(told.chance) < Fraction(n, 2 * n - 1))
            for p in (Fraction(1, 2), Fraction(n, 2 * n - 1), Fraction(1, 100), Fraction(99, 100)):
                self.assertTrue(listed.is_best_at({}, p))
        # they are one place for n = 1
        self.assertIsNone(always_best(code, {}, (1, 0, 0)))


class NeverWorseTest(Checks):
    def check_less(self, one, two, low=0, high=1):
        """That there is a p, between two ratios, at which one is less."""
        told = never_worse(one, two)
        self.assertIsNotNone(told)
        p = fraction(told)
        self.assertEqual(told, (p.numerator, p.denominator))
        self.assertTrue(max(0, low) < p < min(1, high), p)
        self.assertLess(value_at([fraction(number) for number in one], p),
                        value_at([fraction(number) for number in two], p))
        self.assertEqual(never_worse(one, two), told)

    def test_empty_ones_and_zeros_at_the_end(self):
        for zero in ((), (0,), (0, 0), ((0, 5), 0, (0, 1))):
            for other in ((), (0,), (0, (0, 3))):
                self.assertIsNone(never_worse(zero, other))
            self.assertIsNone(never_worse((1,), zero))
            self.assertIsNone(never_worse((0, 1), zero))
            self.check_less(zero, (1,))
            self.check_less(zero, (0, 0, 0, (1, 10 ** 9), 0))
            self.check_less((-1, 0, 0), zero)
            self.assertIsNone(never_worse((1, (1, 2)) + zero, (1, (2, 4))))
            self.assertIsNone(never_worse((1, (1, 2)), (1, (2, 4)) + zero))

    def test_lengths(self):
        self.assertIsNone(never_worse((1, -1, 1, -1, 1), (0,)))
        self.assertIsNone(never_worse((1,), (1, 0, 0, -1)))
        self.check_less((1,), (1, 0, 0, 1))
        self.check_less((0, 0, 0, 1), (1,))
        self.assertIsNone(never_worse((0, 1), (0, 0, 1)))
        self.check_less((0, 0, 1), (0, 1))

    def test_ends_do_not_count(self):
        # alike at 0 or at 1, or less at the ends alone
        self.assertIsNone(never_worse((0, 1), ()))
        self.assertIsNone(never_worse((1, -1), ()))
        self.assertIsNone(never_worse((1,), (0, 1)))
        self.assertIsNone(never_worse((0, 1, -1), ()))
        self.check_less((0, -1, 1), ())

    def test_touching(self):
        for root in (Fraction(1, 2), Fraction(1, 3), Fraction(999, 1000)):
            square = by([-root, Fraction(1)], [-root, Fraction(1)])
            self.assertIsNone(never_worse(told_poly(square), ()))
            self.assertIsNone(never_worse(told_poly(plus(square, [Fraction(3)])), (3, 0)))
            self.check_less((), told_poly(square))
            less = plus(square, [Fraction(-1, 10 ** 20)])
            self.check_less(told_poly(less), (), root - Fraction(1, 10 ** 9), root + Fraction(1, 10 ** 9))
            self.assertIsNone(never_worse(told_poly(plus(square, [Fraction(1, 10 ** 20)])), ()))
        # the square root of 1/2, and that of 1/3
        for square, low, high in (([-1, 0, 2], (707, 1000), (708, 1000)), ([-1, 0, 3], (577, 1000), (578, 1000))):
            touching = by(square, square)
            self.assertIsNone(never_worse(told_poly(touching), ()))
            self.assertIsNone(never_worse((0, (1, 2)), told_poly(plus([0, Fraction(1, 2)], [-number for number in touching]))))
            self.check_less((), told_poly(touching))
            self.check_less(told_poly(plus(touching, [Fraction(-1, 10 ** 15)])), (), fraction(low), fraction(high))

    def test_crossing(self):
        # once, at the square root of 1/2; twice, at 1/5 and at 3/4; at roots that are close together
        self.check_less((-1, 0, 2), (), 0, Fraction(708, 1000))
        self.check_less((1, 0, -2), (), Fraction(707, 1000), 1)
        self.check_less((2, 0, -1), (1, 0, 1), Fraction(707, 1000), 1)
        twice = by([Fraction(-1, 5), Fraction(1)], [Fraction(-3, 4), Fraction(1)])
        self.check_less(told_poly(twice), (), Fraction(1, 5), Fraction(3, 4))
        self.check_less((), told_poly(twice))
        close = by([Fraction(-10 ** 6, 2 * 10 ** 6 + 1), Fraction(1)], [Fraction(-10 ** 6 - 1, 2 * 10 ** 6 + 1), Fraction(1)])
        self.check_less(told_poly(close), (), Fraction(10 ** 6, 2 * 10 ** 6 + 1), Fraction(10 ** 6 + 1, 2 * 10 ** 6 + 1))
        # a root that is crossed three times over
        cube = by([-1, 2], by([-1, 2], [-1, 2]))
        self.check_less(told_poly(cube), (), 0, Fraction(1, 2))
        self.check_less((), told_poly(cube), Fraction(1, 2), 1)

    def test_random_ones_against_samples(self):
        source = seeded(107)
        seen = [0, 0]
        for _ in range(400):
            one = tuple(source.choice((source.randrange(-3, 4), (source.randrange(-9, 10), source.randrange(1, 6))))
                        for _ in range(source.randrange(6)))
            two = tuple(source.choice((source.randrange(-3, 4), (source.randrange(-9, 10), source.randrange(1, 6))))
                        for _ in range(source.randrange(6)))
            gap = plus([fraction(number) for number in one], [-fraction(number) for number in two])
            less = [k for k in range(1, 200) if value_at(gap, Fraction(k, 200)) < 0]
            told = never_worse(one, two)
            seen[told is None] += 1
            if told is None:
                self.assertFalse(less)
            else:
                self.check_less(one, two)
        self.assertGreater(min(seen), 50)

    def test_chances_of_classes(self):
        three = Code(3, strings("ZZI IZZ"))
        good, none = success(three, lightest(three), (1, 0, 0)), success(three, {}, (1, 0, 0))
        self.assertIsNone(never_worse(good, none))
        self.check_less(none, good)
        self.check_less(good, class_chance(Code(1, []), Pauli("X"), (1, 0, 0)), Fraction(1, 2), 1)

    def test_values_that_are_none(self):
        for wrong in NO_POLYNOMIALS:
            for other in ((), (1,), (0, (1, 2))) + NO_POLYNOMIALS:
                error = refused(self, BadNumber, never_worse, wrong, other)
                self.assertEqual(error.what, "polynomial")
                self.assertIs(error.number, wrong)
            for good in ((), (1,), (0, (1, 2)), (1, 2)):
                error = refused(self, BadNumber, never_worse, good, wrong)
                self.assertEqual(error.what, "polynomial")
                self.assertIs(error.number, wrong)


class ErrorsTest(unittest.TestCase):
    def test_sizes_go_ahead(self):
        code = Code(2, strings("ZZ"))
        for shares in (THIRDS,) + NO_SHARES:
            for text in ("I", "XXX", "iX", "-iZZZ"):
                self.assertEqual(refused(self, Unlike, class_chance, code, Pauli(text), shares).what, "size")
            for table in ({(0,): Pauli("I")}, {(0,): Pauli("II"), (1,): Pauli("XII")}, {"none": Pauli("XYZ")},
                          {(1, 1): Pauli("X")}):
                self.assertEqual(refused(self, Unlike, success, code, table, shares).what, "size")
                self.assertEqual(refused(self, Unlike, always_best, code, table, shares).what, "size")

    def test_wrong_shares(self):
        code = Code(2, strings("ZZ"))
        for shares in NO_SHARES:
            calls = [(class_chance, code, Pauli("XX"), shares), (success, code, {}, shares),
                     (always_best, code, {(0,): Pauli("II")}, shares)]
            # ahead of a wrong p
            calls += [(best_table, code, shares, p) for p in (0, (1, 2), 1) + NO_CHANCES]
            for call in calls:
                error = refused(self, BadNumber, *call)
                self.assertEqual(error.what, "shares")
                self.assertIs(error.number, shares)

    def test_right_shares(self):
        code = Code(2, strings("ZZ"))
        wanted = class_chance(code, Pauli("XX"), THIRDS)
        for shares in (((2, 6), (3, 9), (1, 3)), ((1, 3), (100, 300), (5, 15))):
            self.assertEqual(class_chance(code, Pauli("XX"), shares), wanted)
        self.assertEqual(success(code, {}, ((4, 4), 0, (0, 9))), success(code, {}, (1, 0, 0)))


class FormTest(unittest.TestCase):
    def test_what_is_defined_here(self):
        for name in ("Best", "Better", "class_chance", "success", "best_table", "always_best", "never_worse"):
            self.assertEqual(getattr(chances, name).__module__, "keptqubits.chances")
        self.assertEqual(list(vars(Best({(1,): "a"}, (1, 2))).items()), [("table", {(1,): "a"}), ("chance", (1, 2))])
        self.assertEqual(list(vars(Better((1,), "a", (1, 2))).items()),
                         [("syndrome", (1,)), ("string", "a"), ("chance", (1, 2))])
        given = {(0,): "a"}
        told = Best(given, 1)
        given.clear()
        self.assertEqual(told.table, {(0,): "a"})

    def test_nothing_changes(self):
        code = Code(3, strings("ZZI IZZ"))
        table = lightest(code)
        before, kept = dict(table), dict(vars(code))
        success(code, table, THIRDS)
        always_best(code, table, THIRDS)
        best_table(code, THIRDS, (1, 3)).table.clear()
        class_chance(code, Pauli("XXX"), THIRDS)
        self.assertEqual((table, vars(code)), (before, kept))
        self.assertEqual(len(best_table(code, THIRDS, (1, 3)).table), 4)


if __name__ == "__main__":
    unittest.main()
