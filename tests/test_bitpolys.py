"""[5]: polynomials with bits."""

import random
import unittest

from keptqubits import bitpolys
from keptqubits.bitpolys import divided, divisor_of, factors_of, power_rest, product_of, sum_of
from keptqubits.errors import BadNumber, BadText

# Here a polynomial is the set of its powers: slow, and unlike what the program does.


def powers_of(text):
    return frozenset(power for power, sign in enumerate(text) if sign == "1")


def text_of(powers):
    if not powers:
        return "0"
    return "".join("1" if power in powers else "0" for power in range(max(powers) + 1))


def slow_product(one, other):
    total = frozenset()
    for power in other:
        total = total ^ frozenset(power + more for more in one)
    return total


def slow_rest(powers, divisor):
    while powers and max(powers) >= max(divisor):
        shift = max(powers) - max(divisor)
        powers = powers ^ frozenset(power + shift for power in divisor)
    return powers


def all_texts(longest):
    """All bit polynomials of at most so many signs."""
    texts = ["0", "1"]
    for length in range(2, longest + 1):
        for number in range(2 ** (length - 1)):
            texts.append(format(number, f"0{length - 1}b") + "1")
    return texts


def random_text(source, length):
    return "".join(source.choice("01") for _ in range(length - 1)) + "1"


def is_divisor(one, other):
    """Whether one divides other; 0 divides 0 alone."""
    if not powers_of(one):
        return not powers_of(other)
    return not slow_rest(powers_of(other), powers_of(one))


def unbroken_texts(longest):
    """All polynomials but 1 of at most so many signs that are no products, by crossing out all products."""
    texts = [text for text in all_texts(longest) if text not in ("0", "1")]
    products = {text_of(slow_product(powers_of(one), powers_of(other)))
                for one in texts for other in texts if len(one) + len(other) - 1 <= longest}
    return [text for text in texts if text not in products]


SMALL = all_texts(5)

# wrong texts, each with the column that is told
WRONG = (("", 1), ("00", 3), ("10", 3), ("000", 4), ("0110", 5), ("2", 1), ("12", 2), ("1x1", 2), ("01 ", 3), (" 1", 1),
         ("+1", 1), ("-1", 1), ("1\n", 2), ("1" * 60 + "0", 62), ("1" * 60 + "2", 61), ("0" * 61, 62),
         ("\u0661", 1), ("1\u0660", 2), ("\uff11", 1), ("1_1", 2), ("10x", 3), ("x0", 1), ("0b1", 2))
NO_TEXTS = (None, 0, 1, 10, True, b"1", ("1",), ["1"], 1.0, {"1": 1}, object())

BINARY = (sum_of, product_of, divided, divisor_of)


class ValuesTest(unittest.TestCase):
    def test_sums_and_products(self):
        for a in SMALL:
            for b in SMALL:
                self.assertEqual(sum_of(a, b), text_of(powers_of(a) ^ powers_of(b)))
                self.assertEqual(product_of(a, b), text_of(slow_product(powers_of(a), powers_of(b))))

    def check_divided(self, a, b):
        pair = divided(a, b)
        self.assertIs(pair.__class__, tuple)
        quotient, rest = pair
        self.assertEqual(rest, text_of(slow_rest(powers_of(a), powers_of(b))))
        self.assertEqual(sum_of(text_of(slow_product(powers_of(b), powers_of(quotient))), rest), a)
        self.assertTrue(rest == "0" or len(rest) < len(b))

    def test_divided(self):
        for a in all_texts(6):
            for b in SMALL:
                if b != "0":
                    self.check_divided(a, b)

    def test_divisor_of(self):
        for a in SMALL:
            for b in SMALL:
                divisor = divisor_of(a, b)
                common = [text for text in SMALL if is_divisor(text, a) and is_divisor(text, b)]
                self.assertIn(divisor, common)
                for text in common:
                    self.assertTrue(is_divisor(text, divisor), (a, b, divisor, text))

    def test_power_rest(self):
        for a in all_texts(6):
            if a != "0":
                for length in range(40):
                    wanted = text_of(slow_rest(frozenset([length]), powers_of(a)))
                    self.assertEqual(power_rest(length, a), wanted)

    def test_zero_and_one(self):
        for text in ("0", "1", "01", "1101", "1" * 61):
            self.assertEqual(sum_of(text, "0"), text)
            self.assertEqual(sum_of("0", text), text)
            self.assertEqual(sum_of(text, text), "0")
            self.assertEqual(product_of(text, "0"), "0")
            self.assertEqual(product_of("0", text), "0")
            self.assertEqual(product_of(text, "1"), text)
            self.assertEqual(product_of("1", text), text)
            self.assertEqual(divided(text, "1"), (text, "0"))
            self.assertEqual(divisor_of(text, "0"), text)
            self.assertEqual(divisor_of("0", text), text)
            self.assertEqual(divisor_of(text, "1"), "1")
            self.assertEqual(divisor_of("1", text), "1")
            self.assertEqual(divisor_of(text, text), text)
        self.assertEqual(sum_of("1", "1"), "0")
        self.assertEqual(divided("0", "1101"), ("0", "0"))
        self.assertEqual(divided("1", "1101"), ("0", "1"))
        self.assertEqual(power_rest(0, "1"), "0")
        self.assertEqual(power_rest(0, "01"), "1")
        self.assertEqual(power_rest(1, "01"), "0")
        self.assertEqual(power_rest(10 ** 30, "1"), "0")
        self.assertEqual(factors_of("1"), ())

    def test_long_texts(self):
        source = random.Random(51)
        for _ in range(60):
            a, b = random_text(source, 61), random_text(source, source.randrange(1, 62))
            self.assertEqual(sum_of(a, b), text_of(powers_of(a) ^ powers_of(b)))
            self.assertEqual(product_of(a, b), text_of(slow_product(powers_of(a), powers_of(b))))
            self.check_divided(a, b)

    def test_long_divisors(self):
        source = random.Random(52)
        for _ in range(30):
            common = random_text(source, source.randrange(1, 31))
            a = text_of(slow_product(powers_of(common), powers_of(random_text(source, 31))))
            b = text_of(slow_product(powers_of(common), powers_of(random_text(source, 31))))
            divisor = divisor_of(a, b)
            self.assertTrue(is_divisor(divisor, a) and is_divisor(divisor, b))
            self.assertTrue(is_divisor(common, divisor))
            self.assertEqual(divisor_of(divided(a, divisor)[0], divided(b, divisor)[0]), "1")

    def test_told_texts(self):
        self.assertEqual(product_of("11", "1011"), "11101")
        self.assertEqual(product_of("1101", "11"), "10111")
        self.assertEqual(divided("10000001", "1101"), ("11101", "0"))
        self.assertEqual(power_rest(3, "1101"), "11")
        self.assertEqual(power_rest(7, "1101"), "1")
        self.assertEqual(divisor_of("101", "11"), "11")


class PowerTest(unittest.TestCase):
    def test_large_lengths(self):
        # x has the order 7 modulo 1101, and 2 ** 60 - 1 modulo a primitive polynomial of degree 60
        self.assertEqual(power_rest(10 ** 30, "1101"), power_rest(10 ** 30 % 7, "1101"))
        long = "11" + "0" * 58 + "1"
        order = 2 ** 60 - 1
        self.assertEqual(power_rest(order, long), "1")
        for factor in (3, 5, 7, 11, 13, 31, 41, 61, 151, 331, 1321):
            self.assertEqual(order % factor, 0)
            self.assertNotEqual(power_rest(order // factor, long), "1")
        self.assertEqual(power_rest(10 ** 30, long), power_rest(10 ** 30 % order, long))
        for length in (0, 1, 59, 60, 61, 1000):
            self.assertEqual(power_rest(length, long), text_of(slow_rest(frozenset([length]), powers_of(long))))

    def test_large_lengths_add_up(self):
        source = random.Random(53)
        for _ in range(20):
            a = random_text(source, source.randrange(2, 62))
            one = source.randrange(5 * 10 ** 29)
            wanted = divided(product_of(power_rest(one, a), power_rest(10 ** 30 - one, a)), a)[1]
            self.assertEqual(power_rest(10 ** 30, a), wanted)

    def test_wrong_lengths(self):
        for length in (True, False, -1, -10 ** 40, 10 ** 30 + 1, 10 ** 40, None, "3", 3.0, (3,), [], object()):
            for a in ("1101", "0", "1"):
                with self.assertRaises(BadNumber) as caught:
                    power_rest(length, a)
                self.assertEqual(caught.exception.what, "length")
                self.assertIs(caught.exception.number, length)

    def test_division_by_zero(self):
        for length in (0, 1, 10 ** 30):
            with self.assertRaises(BadNumber) as caught:
                power_rest(length, "0")
            self.assertEqual((caught.exception.what, caught.exception.number), ("divisor", "0"))

    def test_wrong_text_ahead_of_wrong_length(self):
        for length in (True, -1, 10 ** 30 + 1, None, 5):
            for text, column in WRONG:
                with self.assertRaises(BadText) as caught:
                    power_rest(length, text)
                self.assertEqual((caught.exception.line, caught.exception.column), (1, column))
            for value in NO_TEXTS:
                with self.assertRaises(BadText) as caught:
                    power_rest(length, value)
                self.assertEqual((caught.exception.line, caught.exception.column), (0, 0))


class FactorsTest(unittest.TestCase):
    def check_factors(self, a, unbroken):
        pairs = factors_of(a)
        self.assertIs(pairs.__class__, tuple)
        total = frozenset([0])
        for pair in pairs:
            self.assertIs(pair.__class__, tuple)
            factor, times = pair
            self.assertIn(factor, unbroken)
            self.assertIs(times.__class__, int)
            self.assertGreaterEqual(times, 1)
            for _ in range(times):
                total = slow_product(total, powers_of(factor))
        self.assertEqual(text_of(total), a)
        factors = [factor for factor, times in pairs]
        self.assertEqual(factors, sorted(set(factors), key=lambda factor: (len(factor), factor)))

    def test_small_ones(self):
        unbroken = set(unbroken_texts(8))
        self.assertEqual(len(unbroken), 2 + 1 + 2 + 3 + 6 + 9 + 18)
        for a in all_texts(8):
            if a != "0":
                self.check_factors(a, unbroken)

    def test_order_of_texts(self):
        self.assertEqual(factors_of("10000001"), (("11", 1), ("1011", 1), ("1101", 1)))
        self.assertEqual(factors_of("001001"), (("01", 2), ("11", 1), ("111", 1)))

    def test_factors_taken_several_times(self):
        source = random.Random(54)
        unbroken = unbroken_texts(6)
        for _ in range(60):
            wanted = {}
            powers = frozenset([0])
            while True:
                factor = source.choice(unbroken)
                if max(powers) + len(factor) - 1 > 24:
                    break
                for _ in range(source.randrange(1, 4)):
                    if max(powers) + len(factor) - 1 <= 24:
                        powers = slow_product(powers, powers_of(factor))
                        wanted[factor] = wanted.get(factor, 0) + 1
            told = tuple((factor, wanted[factor]) for factor in sorted(wanted, key=lambda text: (len(text), text)))
            self.assertEqual(factors_of(text_of(powers)), told)

    def test_powers_of_one_factor(self):
        self.assertEqual(factors_of("0" * 24 + "1"), (("01", 24),))
        self.assertEqual(factors_of("1" + "0" * 15 + "1"), (("11", 16),))
        self.assertEqual(factors_of("1000000010000000100000001"), (("11", 24),))
        self.assertEqual(factors_of("100000001" + "0" * 7 + "1"), (("111", 8),))
        self.assertEqual(factors_of("01"), (("01", 1),))
        self.assertEqual(factors_of("11"), (("11", 1),))

    def test_two_long_factors(self):
        # Neither is a product: the order of x modulo it has the factor 13, which divides 2 ** 12 - 1,
        # but 2 ** d - 1 for no lower degree d.
        one, other = "1100101000001", "1000001010011"
        for text in (one, other):
            self.assertEqual(power_rest(4095, text), "1")
            self.assertNotEqual(power_rest(4095 // 13, text), "1")
        self.assertEqual(factors_of(one), ((one, 1),))
        self.assertEqual(factors_of(other), ((other, 1),))
        self.assertEqual(factors_of(product_of(one, other)), ((other, 1), (one, 1)))
        self.assertEqual(factors_of(product_of(one, one)), ((one, 2),))

    def test_a_long_one_that_is_no_product(self):
        # the same with the factor 241 of 2 ** 24 - 1
        text = text_of(frozenset([24, 7, 2, 1, 0]))
        self.assertEqual(len(text), 25)
        self.assertEqual(power_rest(2 ** 24 - 1, text), "1")
        self.assertNotEqual(power_rest((2 ** 24 - 1) // 241, text), "1")
        self.assertEqual(factors_of(text), ((text, 1),))

    def test_zero(self):
        with self.assertRaises(BadNumber) as caught:
            factors_of("0")
        self.assertEqual((caught.exception.what, caught.exception.number), ("polynomial", "0"))


class WrongTextsTest(unittest.TestCase):
    def check(self, call, arguments, line, column):
        with self.assertRaises(BadText) as caught:
            call(*arguments)
        self.assertEqual((caught.exception.line, caught.exception.column), (line, column), arguments)

    def test_wrong_at_a(self):
        for call in BINARY:
            for other in ("0", "1", "1101"):
                for text, column in WRONG:
                    self.check(call, (text, other), 1, column)
                for value in NO_TEXTS:
                    self.check(call, (value, other), 0, 0)

    def test_wrong_at_b(self):
        for call in BINARY:
            for other in ("0", "1", "1101"):
                for text, column in WRONG:
                    self.check(call, (other, text), 1, column)
                for value in NO_TEXTS:
                    self.check(call, (other, value), 0, 0)

    def test_wrong_at_both_tells_a(self):
        for call in BINARY:
            for text, column in WRONG:
                self.check(call, (text, "x"), 1, column)
                self.check(call, (text, None), 1, column)
                self.check(call, (7, text), 0, 0)

    def test_wrong_at_factors_of(self):
        for text, column in WRONG:
            self.check(factors_of, (text,), 1, column)
        for value in NO_TEXTS:
            self.check(factors_of, (value,), 0, 0)

    def test_wrong_text_ahead_of_division_by_zero(self):
        self.check(divided, ("10", "0"), 1, 3)
        self.check(divided, (None, "0"), 0, 0)
        for a in ("0", "1", "1101"):
            with self.assertRaises(BadNumber) as caught:
                divided(a, "0")
            self.assertEqual((caught.exception.what, caught.exception.number), ("divisor", "0"))

    def test_defined_where_the_interface_lists_them(self):
        for call in BINARY + (power_rest, factors_of):
            self.assertEqual(call.__module__, bitpolys.__name__)


if __name__ == "__main__":
    unittest.main()
