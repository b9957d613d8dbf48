"""[23], [24], [25]: ring codes, and what those of all lengths keep."""

import itertools
import unittest

import plain
from plain import NO_SIZES, refused, seeded, string

from keptqubits import rings
from keptqubits.bitpolys import power_rest, product_of
from keptqubits.codes import Code
from keptqubits.errors import BadNumber, BadText
from keptqubits.groups import Group
from keptqubits.rings import Ring, ring_code, ring_kept, ring_parts

# irreducible, with their orders; the first one has the order 1, since it divides x + 1
FACTORS = {"11": 1, "111": 3, "1101": 7, "1011": 7, "11001": 15, "10011": 15, "11111": 5, "1001001": 9, "1110101": 21,
           "1100001": 63, "110001110101": 23, "1100000001": 73}

# values that are no texts of polynomials, with the column, or (0, 0)
NO_POLYNOMIALS = [(None, (0, 0)), (1, (0, 0)), (True, (0, 0)), (b"1", (0, 0)), (["1"], (0, 0)), (("1",), (0, 0)),
                  ("", (1, 1)), ("2", (1, 1)), ("1 1", (1, 2)), ("10", (1, 3)), ("0110", (1, 5)), ("x", (1, 1)),
                  ("00", (1, 3)), ("01a1", (1, 3))]

TEXTS = ["0", "1", "01", "11", "001", "101", "011", "111", "0001", "1101", "1011", "1111", "10001", "11111"]


def ring_strings(a, b, length):
    """The strings of [23], place by place."""
    found = []
    for turn in range(length):
        for letter in "XZ":
            met = [0] * (2 * length)
            for bits, ring in ((a, 0), (b, length)) if letter == "X" else ((b, 0), (a, length)):
                for power in range(len(bits)):
                    if bits[power] == "1":
                        met[ring + (power + turn if letter == "X" else turn - power) % length] += 1
            found.append(string("".join(letter if times % 2 else "I" for times in met)))
    return found


def powers_of(text, times):
    total = "1"
    for _ in range(times):
        total = product_of(total, text)
    return total


def random_text(source, degree):
    return "".join(source.choice("01") for _ in range(degree)) + "1"


class CodesTest(unittest.TestCase):
    def check_code(self, a, b, length):
        code = ring_code(a, b, length)
        self.assertIs(code.__class__, Code)
        given = ring_strings(a, b, length)
        self.assertEqual(code.size, 2 * length)
        self.assertEqual(code.group, Group(2 * length, given))
        self.assertTrue(all(row.phase == 0 for row in given))
        self.assertEqual((code.gauge, code.gauged), ((), 0))
        self.assertEqual(code.kept, 2 * length - code.group.rank)
        self.assertEqual(len(code.hidden), code.kept)
        flat = [row for pair in code.hidden for row in pair]
        self.assertTrue(all(code.kind_of(row) == "hidden" and row.phase % 2 == 0 for row in flat))
        for one, other in itertools.combinations(range(len(flat)), 2):
            self.assertEqual(flat[one].commutes(flat[other]), one // 2 != other // 2)
        kept = ring_kept(a, b, length)
        self.assertEqual(kept, code.kept)
        self.assertIs(kept.__class__, int)
        if (a, b) != ("0", "0"):
            self.assertEqual(ring_parts(a, b).kept_at(length), kept)
        return code

    def test_all_short_ones(self):
        for length in range(1, 6):
            for a, b in itertools.product(TEXTS, repeat=2):
                self.check_code(a, b, length)

    def test_lengths_to_12(self):
        source = seeded(31)
        for length in range(1, 13):
            for a, b in (("111", "111"), ("11", "101"), ("1101", "1101"), ("0", "11"), ("1", "0"), ("0", "0"),
                         ("1111", "1111"), ("001", "0001")):
                self.check_code(a, b, length)
            for _ in range(3):
                self.check_code(random_text(source, source.randrange(15)), random_text(source, source.randrange(8)),
                                length)
                common = random_text(source, source.randrange(1, 6))
                self.check_code(product_of(common, random_text(source, 3)), product_of(common, common), length)

    def test_places_that_are_met_twice(self):
        # 1 + x ^ 2 meets each place twice for the length 2, and x ^ 5 stands for x ^ 1 there
        self.assertEqual(self.check_code("101", "101", 2).kept, 4)
        self.assertEqual(self.check_code("101", "000001", 2).kept, 0)
        self.assertEqual(self.check_code("1", "1", 1).kept, 0)
        self.assertEqual(self.check_code("11", "11", 1).kept, 2)
        self.assertEqual(self.check_code("1001", "0", 3).kept, 6)
        self.assertEqual(self.check_code("1" * 13, "1" * 25, 12).kept, 0)

    def test_known_codes(self):
        # both rings of 1 + x: the same as the ring of neighbors, by bits and by phases
        code = ring_code("11", "0", 3)
        self.assertEqual(code.kept, 2)
        for text in ("XXI", "IXX", "XIX"):
            self.assertEqual(code.group.sign_of(string(text + "III")), 1)
        for text in ("ZZI", "IZZ", "ZIZ"):
            self.assertEqual(code.group.sign_of(string("III" + text)), 1)
        code = ring_code("1101", "01", 5)
        self.assertEqual(code.group.sign_of(string("XXIXI" + "IXIII")), 1)
        self.assertEqual(code.group.sign_of(string("IIIIZ" + "ZIZIZ")), 1)
        self.assertEqual(ring_code("0", "0", 4).kept, 8)
        self.assertEqual(ring_code("0", "0", 4).group.rank, 0)


class KeptTest(unittest.TestCase):
    def test_great_lengths_against_the_parts(self):
        source = seeded(32)
        for _ in range(40):
            common = "1"
            for text in source.sample(sorted(FACTORS), source.randrange(1, 4)):
                common = product_of(common, powers_of(text, source.randrange(1, 4)))
            common = common if len(common) <= 22 else "1111111"
            a, b = product_of(common, random_text(source, 2)), product_of(common, random_text(source, 2))
            parts = ring_parts(a, b)
            for _ in range(12):
                length = source.choice((1, 3, 7, 15, 105, 73 * 15 * 7)) * 2 ** source.randrange(8)
                length *= source.choice((1, source.randrange(1, 10 ** 20)))
                for told in (length, 10 ** 30 - source.randrange(10 ** 5), 10 ** 30):
                    self.assertEqual(ring_kept(a, b, told), parts.kept_at(told))

    def test_known_great_lengths(self):
        # 111 divides x ^ 3 + 1; 10 ** 30 is no multiple of 3, but of 2 ** 30
        self.assertEqual(ring_kept("111", "111", 10 ** 30), 0)
        self.assertEqual(ring_kept("111", "111", 3 * 10 ** 29), 4)
        self.assertEqual(ring_kept("11111", "11111", 10 ** 30), 8)
        self.assertEqual(ring_kept("11", "11", 10 ** 30 - 1), 2)
        for times, power in itertools.product(range(1, 25), range(6)):
            self.assertEqual(ring_kept(powers_of("11", times), "0", (10 ** 29 + 1) * 2 ** power), 2 * min(times, 2 ** power))
        self.assertEqual(ring_kept("0", "0", 10 ** 30), 2 * 10 ** 30)
        self.assertEqual(ring_kept("0", "01", 10 ** 30), 0)
        self.assertEqual(ring_kept("0", "1", 7), 0)
        self.assertEqual(ring_kept("0" * 20 + "1", "0", 12), 0)

    def test_no_error_somewhat_beyond_the_limit(self):
        self.assertEqual(ring_kept("111", "111", 3 * 10 ** 30), 4)
        self.assertEqual(ring_kept("111", "111", 10 ** 30 + 1), 0)
        self.assertEqual(ring_code("11", "11", 13).kept, 2)


class PartsTest(unittest.TestCase):
    def check_parts(self, a, b, wanted):
        ring = ring_parts(a, b)
        self.assertIs(ring.__class__, Ring)
        self.assertEqual(ring.parts, tuple(sorted(wanted)))
        self.assertIs(ring.parts.__class__, tuple)
        self.assertTrue(all(part.__class__ is tuple and len(part) == 3 for part in ring.parts))
        return ring

    def test_orders(self):
        for text, order in FACTORS.items():
            least = [length for length in range(1, 200) if power_rest(length, text) == power_rest(0, text)]
            self.assertEqual(least[0], order)
            self.check_parts(text, text, [(order, 1, len(text) - 1)])
            self.check_parts("0", text, [(order, 1, len(text) - 1)])
            self.check_parts(text, "0", [(order, 1, len(text) - 1)])

    def test_products_of_known_factors(self):
        source = seeded(33)
        for _ in range(60):
            chosen = {text: source.randrange(1, 5) for text in source.sample(sorted(FACTORS), source.randrange(4))}
            total = "1"
            for text, times in chosen.items():
                total = product_of(total, powers_of(text, times))
            if len(total) > 25:
                continue
            wanted = {}
            for text, times in chosen.items():
                key = (FACTORS[text], times)
                wanted[key] = wanted.get(key, 0) + len(text) - 1
            triples = [(order, times, degree) for (order, times), degree in wanted.items()]
            self.check_parts(total, total, triples)
            # the factor x does not count, and what is in one of both only does not either
            self.check_parts("0" * source.randrange(4) + total, "00" + total, triples)
            self.check_parts(product_of(total, "1101010001"), product_of(total, "1"), triples)
            self.check_parts(product_of(total, "01"), product_of(total, "11"), triples)

    def test_one_order_and_one_number_are_one_part(self):
        self.check_parts(product_of("1101", "1011"), "0", [(7, 1, 6)])
        self.check_parts(product_of("1101", powers_of("1011", 2)), "0", [(7, 1, 3), (7, 2, 3)])
        self.check_parts(powers_of(product_of("11001", "10011"), 2), "0", [(15, 2, 8)])
        self.check_parts(product_of("11", product_of("111", "11111")), "0", [(1, 1, 1), (3, 1, 2), (5, 1, 4)])

    def test_nothing_in_common(self):
        for a, b in (("1", "0"), ("0", "1"), ("1", "1"), ("11", "111"), ("01", "01"), ("0001", "001"), ("01", "0"),
                     ("1101", "1011")):
            ring = self.check_parts(a, b, [])
            self.assertEqual(ring.kept_at(10 ** 40), 0)

    def test_high_degrees(self):
        # irreducible ones of degree 23 and 24: their orders divide 2 ** degree - 1
        for text in ("1" + "0" * 4 + "1" + "0" * 17 + "1", "11100001" + "0" * 16 + "1"):
            (order, times, degree), = ring_parts(text, text).parts
            self.assertEqual((times, degree), (1, len(text) - 1))
            self.assertEqual((2 ** degree - 1) % order, 0)
            self.assertEqual(power_rest(order, text), "1")
            for prime in (3, 5, 7, 13, 17, 47, 178481, 241):
                if order % prime == 0:
                    self.assertNotEqual(power_rest(order // prime, text), "1")

    def test_both_are_0(self):
        error = refused(self, BadNumber, ring_parts, "0", "0")
        self.assertEqual((error.what, error.number), ("polynomials", 0))


class KeptAtTest(unittest.TestCase):
    def test_by_hand(self):
        ring = Ring(((1, 2, 1), (3, 1, 2), (7, 5, 6)))
        self.assertEqual(ring.parts, ((1, 2, 1), (3, 1, 2), (7, 5, 6)))
        for length in range(1, 400):
            power = max(2 ** k for k in range(10) if length % 2 ** k == 0)
            wanted = 2 * min(2, power) + (4 * min(1, power) if length % 3 == 0 else 0)
            wanted += 12 * min(5, power) if length % 7 == 0 else 0
            self.assertEqual(ring.kept_at(length), wanted)
        self.assertEqual(ring.kept_at(21 * 2 ** 400), 4 + 4 + 60)
        self.assertEqual(ring.kept_at(21 * 2 ** 400 + 1), 2)
        self.assertEqual(ring.kept_at(3 ** 500), 2 + 4)
        self.assertEqual(Ring(()).kept_at(10 ** 100), 0)

    def test_told_rings_at_great_lengths(self):
        ring = ring_parts(powers_of("111", 3), powers_of("111", 7))
        self.assertEqual(ring.parts, ((3, 3, 2),))
        self.assertEqual(ring.kept_at(3 * 10 ** 1000), 12)
        self.assertEqual(ring.kept_at(10 ** 1000), 0)
        self.assertEqual(ring.kept_at(6 * (10 ** 900 + 1)), 8)
        self.assertEqual(ring.kept_at(3 * (10 ** 900 + 1)), 4)

    def test_wrong_lengths(self):
        for ring in (Ring(()), Ring(((1, 1, 1),)), ring_parts("11", "11")):
            for length in NO_SIZES:
                error = refused(self, BadNumber, ring.kept_at, length)
                self.assertEqual(error.what, "length")
                self.assertIs(error.number, length)

    def test_parts_that_change_behind(self):
        given = [(1, 1, 1), (3, 1, 2)]
        ring = Ring(given)
        given.clear()
        self.assertEqual(ring.parts, ((1, 1, 1), (3, 1, 2)))
        self.assertEqual(ring.kept_at(3), 6)

    def test_what_is_defined_here(self):
        for name in ("Ring", "ring_code", "ring_kept", "ring_parts"):
            self.assertEqual(getattr(rings, name).__module__, "keptqubits.rings")
        self.assertIn("kept_at", vars(Ring))


class ErrorsTest(unittest.TestCase):
    def calls(self, a, b):
        return [(ring_parts, a, b)] + [(call, a, b, length) for call in (ring_code, ring_kept)
                                       for length in (3, 0, True, "3", None)]

    def test_wrong_texts_ahead_of_wrong_lengths(self):
        for wrong, place in NO_POLYNOMIALS:
            for good in ("0", "11", "1101"):
                for call in self.calls(wrong, good) + self.calls(good, wrong):
                    error = refused(self, BadText, *call)
                    self.assertEqual((error.line, error.column), place)

    def test_the_text_at_a_goes_ahead(self):
        for (wrong, place), (other, _) in itertools.product(NO_POLYNOMIALS, repeat=2):
            for call in self.calls(wrong, other):
                error = refused(self, BadText, *call)
                self.assertEqual((error.line, error.column), place)

    def test_wrong_lengths(self):
        for call in (ring_code, ring_kept):
            for a, b in (("0", "0"), ("11", "101"), ("1", "0")):
                for length in NO_SIZES:
                    error = refused(self, BadNumber, call, a, b, length)
                    self.assertEqual(error.what, "length")
                    self.assertIs(error.number, length)


if __name__ == "__main__":
    unittest.main()
