"""[37], [38]: sorts of errors."""

import math
import unittest

import plain
from plain import refused, seeded, string
from sorttexts import some_line, some_text, text_lets

from keptqubits import sorts
from keptqubits.errors import BadNumber, BadText, TooMany, Unlike
from keptqubits.paulis import Pauli
from keptqubits.sorts import Sort, errors_of, how_many

# values that are no sizes of sorts
NO_SIZES = plain.NO_SIZES + (25, 26, 100, 10 ** 30)

# texts with their first wrong line and word, for the size 5
WRONG = [
    ("weight", 1, 2), ("weight ", 1, 2), (" weight", 1, 2), ("weight 6", 1, 2), ("weight 10", 1, 2),
    ("weight -1", 1, 2), ("weight +1", 1, 2), ("weight 01", 1, 2), ("weight 00", 1, 2), ("weight 1.0", 1, 2),
    ("weight x", 1, 2), ("weight 1 1", 1, 3), ("weight 1 x y", 1, 3), ("weight 6 1", 1, 2), ("weight 1,", 1, 2),
    ("weight 0x1", 1, 2), ("weight 1_0", 1, 2), ("weight " + "9" * 40, 1, 2), ("weight one", 1, 2),
    ("run", 1, 2), ("run 6", 1, 2), ("run 01", 1, 2), ("run -0", 1, 2), ("run +2", 1, 2), ("run 2 2", 1, 3),
    ("run X", 1, 2), ("run 0 0 0", 1, 3), ("run 99999999999999999999", 1, 2),
    ("letters", 1, 2), ("letters ", 1, 2), ("letters I", 1, 2), ("letters XI", 1, 2), ("letters XX", 1, 2),
    ("letters XYX", 1, 2), ("letters ZZ", 1, 2), ("letters YXY", 1, 2), ("letters x", 1, 2), ("letters XYZX", 1, 2),
    ("letters X Y", 1, 3), ("letters XYZ Z", 1, 3), ("letters X,Y", 1, 2), ("letters 1", 1, 2), ("letters -X", 1, 2),
    ("letters Q Y", 1, 2), ("letters XZ XZ XZ", 1, 3),
    ("near 0", 1, 2), ("near 0-", 1, 2), ("near -1", 1, 2), ("near -", 1, 2), ("near 0-0", 1, 2), ("near 0-5", 1, 2),
    ("near 5-0", 1, 2), ("near 0-1-2", 1, 2), ("near 00-1", 1, 2), ("near 0-01", 1, 2), ("near 0 - 1", 1, 2),
    ("near 0--1", 1, 2), ("near +0-1", 1, 2), ("near 0-1 0-1", 1, 3), ("near 0-1 1-0", 1, 3),
    ("near 1-0 2-3 0-1", 1, 4), ("near 0-1 1-2 2-3 3-4 4-5", 1, 6), ("near 0-1 x", 1, 3), ("near 0-1 3", 1, 3),
    ("near 0-1,1-2", 1, 2), ("near X-Y", 1, 2), ("near 2-3 3-3 x", 1, 3), ("near 4-10", 1, 2),
    ("within 5", 1, 2), ("within -1", 1, 2), ("within +1", 1, 2), ("within 01", 1, 2), ("within 0 0", 1, 3),
    ("within 0 1 2 3 4 5", 1, 7), ("within 4 3 4", 1, 4), ("within 0 1 1 9", 1, 4), ("within 0-1", 1, 2),
    ("within X", 1, 2), ("within 0,1", 1, 2), ("within 1 00", 1, 3), ("within 10", 1, 2),
    ("Weight 1", 1, 1), ("weigh 1", 1, 1), ("weights 1", 1, 1), ("x", 1, 1), ("1", 1, 1), ("WEIGHT 9", 1, 1),
    ("weight1", 1, 1), ("weight\t1", 1, 1), ("\tweight 1", 1, 1), ("weight 1\r", 1, 2), ("# weight 1", 1, 1),
    ("letter X", 1, 1), ("nearby", 1, 1), ("with 1", 1, 1), ("runs 1 2 3", 1, 1), ("weight\t", 1, 1), ("\r", 1, 1),
    ("-", 1, 1), ("weight 1\nweight", 2, 2), ("\n\n  \nweight 1 \n x", 5, 1), ("\nrun 9", 2, 2), ("weight 1\n\nrun", 3, 2),
    ("   \nwithin 0   5", 2, 3), ("  within   0  1   7 ", 1, 4), ("near\nnear 0-1 0-6\nx", 2, 3), ("within\nx", 2, 1),
    ("weight 1\nletters X\nnear 0-1\nwithin 0\nrun 1\nrun 6", 6, 2), ("weight 6\nx", 1, 2), ("\x0cweight 1", 1, 1),
    ("weight 1\x0b", 1, 2), ("run \u0661", 1, 2), ("weight \u00b2", 1, 2), ("letters X\u00a0", 1, 2),
]

# one text for each number of strings of 24 places at or beside the limit
LIMIT = {
    20000: "letters Z\nwithin 0 1 2 3 4 5 7 8 9 10 11 12 13 14 15 16 17 18 19 20 21 22 23\nrun 12\nweight 9",
    19999: "within 0 1 3 4 8 9 10 11 12 13 14 16 17 18 19 20 21 22\nrun 8\nweight 4",
    20001: "letters XY\nwithin 0 1 2 3 4 5 6 7 8 9 10 11 12 13 14 15 16 19 20 21 22 23\nrun 10\nweight 4",
}


class SortsTest(unittest.TestCase):
    def check_sort(self, size, text):
        """All that is asked of a sort, against a look at all strings."""
        sort = Sort(size, text)
        wanted = [letters for letters in plain.all_letters(size) if text_lets(text, letters)]
        self.assertEqual(how_many(sort), len(wanted), (size, text))
        told = errors_of(sort)
        self.assertIs(told.__class__, tuple)
        self.assertEqual([one.letters for one in told], wanted, (size, text))
        for one in told:
            self.assertIs(one.__class__, Pauli)
            self.assertEqual(one.phase, 0)
        among = set(wanted)
        for letters in plain.all_letters(size):
            self.assertIs(sort.lets(string(letters)), letters in among, (size, text, letters))
        return sort

    def test_random_texts(self):
        source = seeded(71)
        for size, many in ((1, 30), (2, 60), (3, 80), (4, 80), (5, 50)):
            for _ in range(many):
                self.check_sort(size, some_text(source, size))

    def test_one_line_of_each_kind(self):
        source = seeded(72)
        for size in (1, 2, 3, 4):
            for _ in range(40):
                self.check_sort(size, some_line(source, size))
            for number in range(size + 1):
                self.check_sort(size, f"weight {number}")
                self.check_sort(size, f"run {number}")
            for word in ("X", "Y", "Z", "XY", "YX", "XZ", "ZX", "YZ", "ZY", "XYZ", "XZY", "YXZ", "YZX", "ZXY", "ZYX"):
                self.check_sort(size, f"letters {word}")

    def test_several_lines_of_one_kind(self):
        for size, text in ((3, "weight 2\nweight 1\nweight 3"), (3, "letters XY\nletters YZ"), (3, "letters X\nletters Z"),
                           (4, "near 0-1 1-2 2-3\nnear 2-1 3-0 3-2"), (4, "near 0-1\nnear 2-3"), (4, "near 0-1\nnear"),
                           (4, "within 0 1 3\nwithin 3 2 1"), (4, "within 0\nwithin 1"), (4, "run 3\nrun 2\nrun 4"),
                           (4, "run 0\nrun 4"), (4, "letters XYZ\nletters X\nletters XZ"), (3, "within 2\nwithin"),
                           (4, "near 0-3 1-2\nrun 3\nletters XZ\nwithin 3 2 1\nweight 2")):
            self.check_sort(size, text)

    def test_no_pair_no_place_no_line(self):
        for size in (1, 2, 4):
            for text in ("", "\n", " ", "  \n \n", "\n\n\n"):
                self.assertEqual(how_many(self.check_sort(size, text)), 4 ** size)
            for text in ("near", " near ", "near\n", "\nnear  \n"):
                self.assertEqual(how_many(self.check_sort(size, text)), 1 + 3 * size)
            for text in ("within", "weight 0", "run 0", "letters X\nletters Y", "within\nnear", " within  "):
                self.assertEqual(how_many(self.check_sort(size, text)), 1)
                self.assertEqual(errors_of(Sort(size, text)), (Pauli("I" * size),))

    def test_known_sorts(self):
        self.assertEqual([one.letters for one in errors_of(Sort(2, "weight 1\nletters ZX"))], ["II", "IX", "IZ", "XI", "ZI"])
        self.assertEqual([one.letters for one in errors_of(Sort(3, "near 2-0\nletters Y"))],
                         ["III", "IIY", "IYI", "YII", "YIY"])
        self.assertEqual([one.letters for one in errors_of(Sort(3, "run 2\nletters Y"))],
                         ["III", "IIY", "IYI", "IYY", "YII", "YYI"])
        self.assertEqual([one.letters for one in errors_of(Sort(3, "within 2 0\nletters Y"))],
                         ["III", "IIY", "YII", "YIY"])
        # places with two figures
        self.assertTrue(Sort(24, "within 10 23 9").lets(string("I" * 9 + "XY" + "I" * 12 + "Z")))
        self.assertFalse(Sort(24, "within 10 23 9").lets(string("IX" + "I" * 22)))
        self.assertTrue(Sort(24, "near 23-10").lets(string("I" * 10 + "X" + "I" * 12 + "Z")))
        self.assertFalse(Sort(24, "near 23-10").lets(string("I" * 10 + "XX" + "I" * 11 + "Z")))

    def test_attributes(self):
        for size, text in ((1, ""), (24, " weight 3 \n\n"), (5, "near 1-0  0-4\n")):
            sort = Sort(size, text)
            self.assertIs(sort.__class__, Sort)
            self.assertEqual((sort.size, sort.text), (size, text))

    def test_what_is_defined_here(self):
        for name in ("Sort", "how_many", "errors_of"):
            self.assertEqual(getattr(sorts, name).__module__, "keptqubits.sorts")
        self.assertIn("lets", vars(Sort))

    def test_equal_calls_and_no_change(self):
        sort = Sort(4, "near 0-1 3-2\nletters XY")
        before = dict(vars(sort))
        self.assertEqual(errors_of(sort), errors_of(sort))
        self.assertEqual(how_many(sort), how_many(sort))
        sort.lets(Pauli("XYII"))
        self.assertEqual(vars(sort), before)


class LetsTest(unittest.TestCase):
    def test_all_phases(self):
        source = seeded(73)
        for _ in range(30):
            size = source.randrange(1, 4)
            text = some_text(source, size)
            sort = Sort(size, text)
            for told in plain.all_strings(size):
                self.assertIs(sort.lets(told), text_lets(text, told.letters))

    def test_unlike_sizes(self):
        for size in (1, 2, 5, 24):
            for text in ("", "weight 0"):
                for other in (size - 1, size + 1):
                    for head in plain.HEADS if other else ():
                        error = refused(self, Unlike, Sort(size, text).lets, Pauli(head + "I" * other))
                        self.assertEqual(error.what, "size")


class ManyTest(unittest.TestCase):
    def test_24_places(self):
        for text, many in (("", 4 ** 24), ("weight 24", 4 ** 24), ("letters X", 2 ** 24), ("letters ZY", 3 ** 24),
                           ("run 24", 4 ** 24), ("run 1", 73), ("weight 1", 73), ("near", 73), ("near 0-23", 82),
                           ("within 0 23", 16), ("weight 23", 4 ** 24 - 3 ** 24), ("letters XY\nweight 23", 3 ** 24 - 2 ** 24),
                           ("weight 12", sum(math.comb(24, k) * 3 ** k for k in range(13))),
                           ("weight 2\nletters YZ", 1 + 48 + 276 * 4), ("run 2", 1 + 72 + 23 * 9),
                           ("run 20", 1 + sum(3 * 4 ** min(19, 23 - first) for first in range(24))),
                           ("run 20\nletters XZ", 1 + sum(2 * 3 ** min(19, 23 - first) for first in range(24))),
                           ("run 3\nweight 2", 1 + 72 + 9 * (23 + 22)), ("run 23", 4 ** 24 - 9 * 4 ** 22),
                           ("within 0 2 4 6 8 10 12 14 16 18 20 22\nrun 3", 1 + 36 + 11 * 9)):
            found = how_many(Sort(24, text))
            self.assertEqual(found, many, text)
            self.assertIs(found.__class__, int)

    def test_all_pairs_of_24_places(self):
        words = [f"{one}-{other}" for one in range(24) for other in range(one)]
        for text, many in (("near " + " ".join(words), 1 + 72 + 276 * 9), ("near " + " ".join(words[:100]), 1 + 72 + 900)):
            sort = Sort(24, text)
            self.assertEqual(how_many(sort), many)
            told = errors_of(sort)
            self.assertEqual(len(told), many)
            self.assertEqual([one.letters for one in told], sorted({one.letters for one in told}))

    def test_errors_at_and_beside_the_limit(self):
        for many, text in LIMIT.items():
            sort = Sort(24, text)
            self.assertEqual(how_many(sort), many)
            if many > 20000:
                error = refused(self, TooMany, errors_of, sort)
                self.assertEqual((error.what, error.many, error.limit), ("errors", many, 20000))
            else:
                told = [one.letters for one in errors_of(sort)]
                self.assertEqual(len(told), many)
                self.assertEqual(told, sorted(set(told)))
                self.assertTrue(all(text_lets(text, letters) for letters in told))

    def test_too_many(self):
        for size, text, many in ((8, "", 4 ** 8), (24, "", 4 ** 24), (24, "weight 3", 1 + 72 + 276 * 9 + 2024 * 27),
                                 (15, "letters Y", 2 ** 15), (24, "letters Y\nweight 23", 2 ** 24 - 1)):
            error = refused(self, TooMany, errors_of, Sort(size, text))
            self.assertEqual((error.what, error.many, error.limit), ("errors", many, 20000))
        self.assertEqual(len(errors_of(Sort(7, ""))), 4 ** 7)
        self.assertEqual(len(errors_of(Sort(24, "letters Y\nwithin 0 2 4 5 6 7 8 9 11 13 15 17 19 23"))), 2 ** 14)


class ErrorsTest(unittest.TestCase):
    def test_wrong_lines(self):
        for text, line, column in WRONG:
            error = refused(self, BadText, Sort, 5, text)
            self.assertEqual((error.line, error.column), (line, column), text)

    def test_right_ones_ahead_and_behind(self):
        right = "weight 5\n\n near 0-4 4-3 \nletters ZYX\nwithin 0 1 2 3 4\nrun 0"
        Sort(5, right)
        for text, line, column in WRONG:
            error = refused(self, BadText, Sort, 5, right + "\n" + text + "\n" + right)
            self.assertEqual((error.line, error.column), (line + 6, column), text)

    def test_the_size_counts(self):
        for size in (1, 2, 9, 10, 11, 24):
            for kind in ("weight", "run"):
                Sort(size, f"{kind} {size}")
                error = refused(self, BadText, Sort, size, f"{kind} {size + 1}")
                self.assertEqual((error.line, error.column), (1, 2))
            Sort(size, f"within {size - 1}")
            error = refused(self, BadText, Sort, size, f"within {size - 1} {size}")
            self.assertEqual((error.line, error.column), (1, 3))
            error = refused(self, BadText, Sort, size, f"near {size}-0")
            self.assertEqual((error.line, error.column), (1, 2))
            if size > 1:
                Sort(size, f"near {size - 1}-0")
                error = refused(self, BadText, Sort, size, f"near {size - 1}-0 0-{size}")
                self.assertEqual((error.line, error.column), (1, 3))

    def test_sizes_go_ahead(self):
        for size in NO_SIZES:
            for text in ("", "x", None, 1, "weight 1"):
                error = refused(self, BadNumber, Sort, size, text)
                self.assertEqual(error.what, "size")
                self.assertIs(error.number, size)

    def test_values_that_are_no_strings(self):
        for text in (None, 1, True, b"", b"weight 1", [], ["weight 1"], (), {}, object(), 1.5):
            for size in (1, 24):
                error = refused(self, BadText, Sort, size, text)
                self.assertEqual((error.line, error.column), (0, 0))


if __name__ == "__main__":
    unittest.main()
