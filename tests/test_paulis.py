"""[9], [10], [11]: strings of letters, their texts and their words."""

import itertools
import unittest

from keptqubits import paulis
from keptqubits.errors import BadNumber, BadText, Unlike
from keptqubits.paulis import Pauli, pauli_text, placed, word_of

HEADS = ("", "i", "-", "-i")

# Each letter as a square of numbers: the products here are those of matrices, and not those of a table.
SQUARES = {
    "I": ((1, 0), (0, 1)),
    "X": ((0, 1), (1, 0)),
    "Y": ((0, -1j), (1j, 0)),
    "Z": ((1, 0), (0, -1)),
}

NO_TEXTS = (None, 0, 1, True, b"X", ["X"], ("X",), {"X": 1}, 1.5, object(), Pauli("X"))


def square_product(one, other):
    return tuple(tuple(sum(one[k][m] * other[m][j] for m in range(2)) for j in range(2)) for k in range(2))


def letter_product(one, other):
    """The letter of a product and its power of i."""
    product = square_product(SQUARES[one], SQUARES[other])
    for letter, square in SQUARES.items():
        for power, factor in enumerate((1, 1j, -1, -1j)):
            if product == tuple(tuple(factor * number for number in row) for row in square):
                return letter, power
    raise AssertionError


def slow_product(one, other):
    pairs = [letter_product(a, b) for a, b in zip(one.letters, other.letters)]
    phase = (one.phase + other.phase + sum(power for letter, power in pairs)) % 4
    return HEADS[phase] + "".join(letter for letter, power in pairs)


def all_letters(size):
    return ["".join(letters) for letters in itertools.product("IXYZ", repeat=size)]


def all_strings(size):
    return [Pauli(head + letters) for head in HEADS for letters in all_letters(size)]


class ProductsTest(unittest.TestCase):
    def test_table_of_letters(self):
        table = {"XY": "iZ", "YZ": "iX", "ZX": "iY", "YX": "-iZ", "ZY": "-iX", "XZ": "-iY"}
        for letter in "IXYZ":
            table["I" + letter] = table[letter + "I"] = letter
            table[letter + letter] = "I"
        self.assertEqual(len(table), 16)
        for pair, wanted in table.items():
            self.assertEqual(pauli_text(Pauli(pair[0]).times(Pauli(pair[1]))), wanted)

    def test_all_products_of_small_sizes(self):
        for size in (1, 2):
            for one in all_strings(size):
                for other in all_strings(size):
                    product = one.times(other)
                    self.assertIsInstance(product, Pauli)
                    self.assertEqual(pauli_text(product), slow_product(one, other))

    def test_products_of_three_do_not_depend_on_brackets(self):
        strings = all_strings(1)
        for one, two, three in itertools.product(strings, repeat=3):
            self.assertEqual(one.times(two).times(three), one.times(two.times(three)))
        longer = [Pauli(text) for text in ("XYZIXYZI", "-ZZYXIXYY", "iIYIYZXZX", "-iYXXZZZIX")]
        for one, two, three in itertools.product(longer, repeat=3):
            self.assertEqual(one.times(two).times(three), one.times(two.times(three)))

    def test_commutes(self):
        for size in (1, 2):
            for one in all_strings(size):
                for other in all_strings(size):
                    told = one.commutes(other)
                    self.assertIs(told, one.times(other) == other.times(one))
                    unlike = [k for k in range(size) if one.letters[k] != other.letters[k]
                              and "I" not in (one.letters[k], other.letters[k])]
                    self.assertIs(told, len(unlike) % 2 == 0)
                    if not told:
                        self.assertEqual(one.times(other), other.times(one).times(Pauli("-" + "I" * size)))

    def test_long_ones(self):
        one, other = Pauli("XYZI" * 6), Pauli("-" + "YZXX" * 6)
        self.assertEqual(one.size, 24)
        self.assertEqual(pauli_text(one.times(other)), slow_product(one, other))
        # X Y, Y Z and Z X: i three times in each of the six parts, and the sign
        self.assertEqual(pauli_text(one.times(other)), "ZXYX" * 6)
        self.assertIs(one.commutes(other), True)
        self.assertIs(one.commutes(Pauli("Y" + "I" * 23)), False)

    def test_phases(self):
        for first, second in itertools.product(range(4), repeat=2):
            product = Pauli(HEADS[first] + "IX").times(Pauli(HEADS[second] + "ZI"))
            self.assertEqual((product.letters, product.phase), ("ZX", (first + second) % 4))

    def test_unlike_sizes(self):
        for one, other in (("X", "XX"), ("XX", "X"), ("I", "III"), ("X" * 24, "X" * 23)):
            for call in (Pauli(one).times, Pauli(one).commutes):
                with self.assertRaises(Unlike) as caught:
                    call(Pauli(other))
                self.assertEqual(caught.exception.what, "size")

    def test_what_is_given_stays_as_it_was(self):
        one, other = Pauli("-iXYZ"), Pauli("iZZI")
        kept = dict(vars(one)), dict(vars(other))
        one.times(other)
        one.commutes(other)
        one == other
        pauli_text(one)
        word_of(Pauli("-XYZ"))
        self.assertEqual((vars(one), vars(other)), kept)


class EqualTest(unittest.TestCase):
    def test_by_letters_and_phase(self):
        strings = all_strings(1) + all_strings(2)
        for k, one in enumerate(strings):
            for j, other in enumerate(strings):
                self.assertIs(one == other, k == j)
                self.assertIs(one != other, k != j)
        self.assertEqual(Pauli("+iXZ"), Pauli("iXZ"))
        self.assertEqual(Pauli("+XZ"), Pauli("XZ"))

    def test_not_equal_to_objects_of_other_kinds(self):
        class Other:
            letters = "X"
            phase = 0
            size = 1
            weight = 1

        for other in ("X", b"X", None, 0, 1, True, ("X", 0), ["X", 0], {}, Other(), object()):
            self.assertIs(Pauli("X") == other, False)
            self.assertIs(other == Pauli("X"), False)
            self.assertIs(Pauli("X") != other, True)


class TextTest(unittest.TestCase):
    def test_told_texts(self):
        for text, phase in (("XIZ", 0), ("+XIZ", 0), ("iY", 1), ("+iY", 1), ("-XIZ", 2), ("-iY", 3)):
            self.assertEqual(Pauli(text).phase, phase)
            self.assertEqual(Pauli(text).letters, text.lstrip("+-i"))

    def test_attributes(self):
        p = Pauli("-iXIYIIZ")
        self.assertEqual((p.letters, p.phase, p.size, p.weight), ("XIYIIZ", 3, 6, 3))
        p = Pauli("+" + "I" * 24)
        self.assertEqual((p.letters, p.phase, p.size, p.weight), ("I" * 24, 0, 24, 0))
        for number in (p.phase, p.size, p.weight):
            self.assertIs(number.__class__, int)

    def test_texts_read_again(self):
        for size in (1, 2, 3):
            for p in all_strings(size):
                text = pauli_text(p)
                self.assertEqual(Pauli(text), p)
                self.assertEqual(text, HEADS[p.phase] + p.letters)
                self.assertEqual((p.size, p.weight), (size, len(p.letters.replace("I", ""))))
        self.assertEqual(pauli_text(Pauli("+iXZ")), "iXZ")
        self.assertEqual(pauli_text(Pauli("+XZ")), "XZ")

    def check(self, text, line, column):
        with self.assertRaises(BadText) as caught:
            Pauli(text)
        self.assertEqual((caught.exception.line, caught.exception.column), (line, column), text)

    def test_wrong_texts(self):
        for text, column in (("", 1), ("+", 2), ("-", 2), ("i", 2), ("+i", 3), ("-i", 3), ("X+", 2), ("XY-Z", 3),
                             ("Xi", 2), ("XiY", 2), ("i-X", 2), ("ii", 2), ("iiX", 2), ("--X", 2), ("+-X", 2),
                             ("x", 1), ("Xy", 2), ("IXz", 3), ("-x", 2), ("ix", 2), ("-ix", 3), (" X", 1), ("X ", 2),
                             ("X Y", 2), ("- X", 2), ("i X", 2), ("X\n", 2), ("XYZI0", 5), ("A", 1), ("1X", 1),
                             ("-1", 2), ("j", 1), ("\u0130", 1), ("X" * 24 + "?", 25), ("X*Z", 2), ("X0", 2)):
            self.check(text, 1, column)

    def test_all_short_texts(self):
        # against the beginnings of all texts that are a little longer
        told = {head + letters for head in ("", "+", "-", "i", "+i", "-i") for size in range(1, 6)
                for letters in all_letters(size)}
        begun = {text[:k] for text in told for k in range(len(text) + 1)}
        for length in range(6):
            for signs in itertools.product("+-iIXx ", repeat=length):
                text = "".join(signs)
                if text in told:
                    self.assertEqual(Pauli(text).letters, text.lstrip("+-i"))
                else:
                    self.check(text, 1, 1 + max(k for k in range(length + 1) if text[:k] in begun))

    def test_values_that_are_no_strings(self):
        for value in NO_TEXTS:
            self.check(value, 0, 0)


class WordTest(unittest.TestCase):
    def check(self, size, word, line, column):
        with self.assertRaises(BadText) as caught:
            placed(size, word)
        self.assertEqual((caught.exception.line, caught.exception.column), (line, column), (size, word))

    def check_number(self, size, word):
        with self.assertRaises(BadNumber) as caught:
            placed(size, word)
        self.assertEqual(caught.exception.what, "size")
        self.assertIs(caught.exception.number, size)

    def test_told_words(self):
        self.assertEqual(placed(3, "-X0*Z2"), Pauli("-XIZ"))
        self.assertEqual(word_of(Pauli("-XIZ")), "-X0*Z2")
        for size in range(1, 25):
            self.assertEqual(placed(size, "I"), Pauli("I" * size))
            self.assertEqual(placed(size, "-I"), Pauli("-" + "I" * size))
            self.assertEqual(word_of(Pauli("I" * size)), "I")
            self.assertEqual(word_of(Pauli("-" + "I" * size)), "-I")

    def test_words_of_all_forms(self):
        for size in range(1, 25):
            for letter in "XYZ":
                for place in range(size):
                    one = "I" * place + letter + "I" * (size - place - 1)
                    for sign in ("", "-"):
                        word = f"{sign}{letter}{place}"
                        self.assertEqual(placed(size, word), Pauli(sign + one))
                        self.assertEqual(word_of(Pauli(sign + one)), word)
            letters = ("XYZIIZX" * 4)[:size]
            for sign in ("", "-"):
                word = sign + "*".join(letter + str(place) for place, letter in enumerate(letters) if letter != "I")
                self.assertEqual(placed(size, word), Pauli(sign + letters))
                self.assertEqual(word_of(Pauli(sign + letters)), word)

    def test_words_read_again(self):
        for size in (1, 2, 3, 4):
            for letters in all_letters(size):
                for sign in ("", "-"):
                    p = Pauli(sign + letters)
                    self.assertEqual(placed(size, word_of(p)), p)

    def words(self, size):
        for letters in all_letters(size):
            word = "*".join(letter + str(place) for place, letter in enumerate(letters) if letter != "I") or "I"
            yield word, letters
            yield "-" + word, "-" + letters

    def test_all_short_words_of_small_sizes(self):
        for size, longest in ((1, 5), (2, 6), (3, 5)):
            told = dict(self.words(size))
            begun = {word[:k] for word in told for k in range(len(word) + 1)}
            for length in range(longest + 1):
                for signs in itertools.product("IXZ012*-", repeat=length):
                    word = "".join(signs)
                    if word in told:
                        self.assertEqual(placed(size, word), Pauli(told[word]))
                    else:
                        self.check(size, word, 1, 1 + max(k for k in range(length + 1) if word[:k] in begun))

    def test_places_of_two_figures(self):
        # all words of two letters for these sizes, and what begins them
        for size in (10, 11, 13, 20, 21, 24):
            told = {f"X{one}*Z{other}" for one in range(size) for other in range(one + 1, size)}
            told |= {f"X{one}" for one in range(size)}
            begun = {word[:k] for word in told for k in range(len(word) + 1)}
            for one in list(range(26)) + ["", "00", "01", "010", "100"]:
                for other in list(range(26)) + ["", "00", "01", "09", "123"]:
                    for word in (f"X{one}*Z{other}", f"X{one}"):
                        if word in told:
                            self.assertEqual(word_of(placed(size, word)), word)
                        else:
                            self.check(size, word, 1, 1 + max(k for k in range(len(word) + 1) if word[:k] in begun))

    def test_wrong_words(self):
        for size, word, column in ((3, "", 1), (3, "-", 2), (3, "+X0", 1), (3, "--X0", 2), (3, "X", 2), (3, "-X", 3),
                                   (3, "X3", 2), (3, "X00", 3), (3, "X01", 3), (3, "X0*", 4), (3, "X0*X0", 5),
                                   (3, "X1*X0", 5), (3, "X2*", 3), (3, "X2*Z1", 3), (3, "X0*I", 4), (3, "II", 2),
                                   (3, "I0", 2), (3, "-I*X0", 3), (3, "I*X0", 2), (3, "IX", 2), (3, "X0X1", 3),
                                   (3, "X0 *X1", 3), (3, " X0", 1), (3, "X0 ", 3), (3, "X 0", 2), (3, "x0", 1),
                                   (3, "X-1", 2), (3, "X+1", 2), (3, "X0**X1", 4), (3, "*X0", 1), (3, "0", 1),
                                   (3, "X\u0661", 2), (3, "X0\n", 3), (3, "iX0", 1), (3, "XIZ", 2), (1, "X0*X1", 3),
                                   (24, "X24", 3), (24, "X2*X1", 6), (24, "X3*X1", 6), (24, "X15*X1", 7),
                                   (24, "X15*X15", 7), (24, "X15*X14", 7), (24, "X15*X1*X20", 7), (24, "X23*Y", 4),
                                   (24, "X1*X2*X2", 9), (24, "X12*X2*X3", 7), (24, "X22*X23*Z", 8), (24, "X100", 4),
                                   (24, "X9*X1", 6), (24, "X20*X1", 6), (20, "X15*X2", 6), (21, "X15*X2", 7),
                                   (24, "Y" + "1" * 5000, 4)):
            self.check(size, word, 1, column)

    def test_large_sizes(self):
        self.assertEqual(placed(120, "Y7*X119"), Pauli("I" * 7 + "Y" + "I" * 111 + "X"))
        self.check(120, "Y7*X120", 1, 7)
        self.check(120, "Y107*X10*X111", 1, 9)
        self.check(10 ** 30, "?", 1, 1)
        self.check(10 ** 30, "X" + "9" * 31, 1, 32)

    def test_values_that_are_no_strings(self):
        for value in NO_TEXTS:
            self.check(3, value, 0, 0)

    def test_sizes_ahead_of_words(self):
        for size in (True, False, 0, -1, -10 ** 30, None, "3", 3.0, (3,), [3], object()):
            for word in ("I", "X0", "", "?", None, 7):
                self.check_number(size, word)

    def test_word_of_strings_that_are_not_signed(self):
        for text in ("iX", "-iX", "iI", "-iIIII", "+iZZ"):
            p = Pauli(text)
            with self.assertRaises(BadNumber) as caught:
                word_of(p)
            self.assertEqual(caught.exception.what, "sign")
            self.assertIs(caught.exception.number, p)


class InterfaceTest(unittest.TestCase):
    def test_defined_where_the_interface_lists_them(self):
        for value in (Pauli, pauli_text, placed, word_of):
            self.assertEqual(value.__module__, paulis.__name__)
        self.assertIn("times", vars(Pauli))
        self.assertIn("commutes", vars(Pauli))


if __name__ == "__main__":
    unittest.main()
