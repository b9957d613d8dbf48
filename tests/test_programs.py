"""[58], [59], [60], [64]: the texts of programs."""

import unittest

from plain import NO_SIZES, refused
from keptqubits.errors import BadNumber, BadText, KeptError
from keptqubits.programs import Program

SIZE = 12
MEASURED = "measure X0 to a\nmeasure Z0 to b\n"

# the text, then line and column of the first wrong word, for a program of 12 places
WRONG = [
    # what is no line
    ("\n", 1, 1), ("\n\n", 1, 1), ("h 0\n\n", 2, 1), ("h 0\n\nh 1", 2, 1), (" ", 1, 1), (" h 0", 1, 1), ("h", 1, 2),
    ("H 0", 1, 1), ("hh 0", 1, 1), ("t 0", 1, 1), ("cy 0 1", 1, 1), ("wait", 1, 2), ("\th 0", 1, 1), ("h\t0", 1, 1),
    ("h 0\r\nh 0", 1, 2), ("fresh", 1, 2), ("then", 1, 1), ("+", 1, 1), ("place 0", 1, 1), ("bit", 1, 1),
    # places
    ("h 12", 1, 2), ("h 00", 1, 2), ("h 01", 1, 2), ("h -1", 1, 2), ("h +1", 1, 2), ("h 1.", 1, 2), ("h x", 1, 2),
    ("h ", 1, 2), ("h  0", 1, 2), ("h 0 ", 1, 3), ("h 0 1", 1, 3), ("h 0 x y", 1, 3), ("h 120", 1, 2),
    ("h " + "9" * 5000, 1, 2), ("h 1_0", 1, 2), ("h 1q", 1, 2), ("h 1a", 1, 2), ("wait qq", 1, 2), ("table t\nrow 0q I", 2, 2), ("h \u0663", 1, 2), ("h \u00b2", 1, 2), ("s 12", 1, 2), ("x 012", 1, 2),
    ("y", 1, 2), ("z 1 2", 1, 3), ("fresh 12", 1, 2), ("fresh 1 2", 1, 3), ("lost 12", 1, 2), ("lost 1 2", 1, 3),
    ("lost", 1, 2), ("wait 12", 1, 2), ("wait 3 3", 1, 3),
    ("cx 0 0", 1, 3), ("cx 11 11", 1, 3), ("cx 12 12", 1, 2), ("cx 0", 1, 3), ("cx", 1, 2), ("cx 0 12", 1, 3),
    ("cx 0 1 2", 1, 4), ("cx 0  1", 1, 3), ("cx 0 01", 1, 3), ("cz 5 5", 1, 3), ("cz 5 12", 1, 3), ("cz", 1, 2),
    ("swap 3 3", 1, 3), ("swap 3", 1, 3), ("swap 3 4 5", 1, 4), ("swap 12 3", 1, 2),
    # measure
    ("measure", 1, 2), ("measure X0", 1, 3), ("measure X0 to", 1, 4), ("measure X0 to a b", 1, 5),
    ("measure I to a", 1, 2), ("measure -I to a", 1, 2), ("measure X12 to a", 1, 2), ("measure X00 to a", 1, 2),
    ("measure Z1*X0 to a", 1, 2), ("measure X0*X0 to a", 1, 2), ("measure +X0 to a", 1, 2), ("measure XX to a", 1, 2),
    ("measure  to a", 1, 2), ("measure iX0 to a", 1, 2), ("measure X0 as a", 1, 3), ("measure X0  a", 1, 3),
    ("measure X0 TO a", 1, 3), ("measure X0 then a", 1, 3), ("measure X0 to ", 1, 4), ("measure X0 to A", 1, 4),
    ("measure X0 to 1a", 1, 4), ("measure X0 to a_b", 1, 4), ("measure X0 to abcdefghijklm", 1, 4),
    ("measure X0 to 0", 1, 4), ("measure X0 to \u00e4", 1, 4), ("measure X0 to a\u00b2", 1, 4),
    (MEASURED + "measure X1 to a", 3, 4), (MEASURED + "measure X0 to b", 3, 4),
    # if
    ("if a then X0", 1, 2), (MEASURED + "if c then X0", 3, 2), ("if a then X0\n" + MEASURED, 1, 2),
    (MEASURED + "if", 3, 2), (MEASURED + "if a", 3, 3), (MEASURED + "if a +", 3, 4), (MEASURED + "if a + b", 3, 5),
    (MEASURED + "if a then", 3, 4), (MEASURED + "if a + b then", 3, 6), (MEASURED + "if a then X0 X1", 3, 5),
    (MEASURED + "if a b then X0", 3, 3), (MEASURED + "if a + then X0", 3, 4), (MEASURED + "if + a then X0", 3, 2),
    (MEASURED + "if a + c then X0", 3, 4), (MEASURED + "if a + b + c then X0", 3, 6), (MEASURED + "if a Then X0", 3, 3),
    (MEASURED + "if then X0", 3, 2), (MEASURED + "if a then X12", 3, 4), (MEASURED + "if a then ", 3, 4),
    (MEASURED + "if a then +X0", 3, 4), (MEASURED + "if a + b then I0", 3, 6), (MEASURED + "if a  + b then X0", 3, 3),
    (MEASURED + "if a + b + a then Z1*Z0", 3, 8), (MEASURED + "if a then X0 + X1", 3, 5), (MEASURED + "if a ++ b then X0", 3, 3),
    # tables and rows
    ("table", 1, 2), ("table ", 1, 2), ("table T", 1, 2), ("table 1t", 1, 2), ("table t u", 1, 3),
    ("table abcdefghijklm", 1, 2), ("table t\nrow 0 X0\ntable t", 3, 2), ("table t\nrow 0 X0\ntable u\nrow 0 I\ntable t", 5, 2),
    ("table t", 2, 1), ("table t\n", 2, 1), ("table t\nh 0", 2, 1), ("table t\ntable u", 2, 1), ("table t\n\nrow 0 X0", 2, 1),
    ("table t\nend", 2, 1), ("table t\nnothing", 2, 1), ("table t\nrow 0 X0\ntable u\n", 4, 1), ("row 0 X0", 1, 1), ("row", 1, 1),
    ("h 0\nrow 0 X0", 2, 1), ("h 0\ntable t\nrow 0 X0", 2, 1), ("table t\nrow 0 X0\nh 0\nrow 1 X0", 4, 1),
    ("table t\nrow 0 X0\nh 0\ntable u\nrow 1 X0", 4, 1), ("h 0\ntable T", 2, 1),
    ("table t\nrow", 2, 2), ("table t\nrow 0", 2, 3), ("table t\nrow 0 X0 X1", 2, 4), ("table t\nrow  X0", 2, 2),
    ("table t\nrow 2 X0", 2, 2), ("table t\nrow 0a X0", 2, 2), ("table t\nrow - X0", 2, 2), ("table t\nrow X0 0", 2, 2),
    ("table t\nrow 0 X12", 2, 3), ("table t\nrow 0 ", 2, 3), ("table t\nrow 0 +X0", 2, 3), ("table t\nrow 0 II", 2, 3),
    ("table t\nrow 01 X0\nrow 0 X1", 3, 2), ("table t\nrow 01 X0\nrow 011 X1", 3, 2), ("table t\nrow 01 X0\nrow 01 X1", 3, 2),
    ("table t\nrow 0 X0\nrow 1 X0\nrow 0 I", 4, 2), ("table t\nrow 0 X0\ntable u\nrow 00 I\nrow 0 I", 5, 2),
    # look
    ("look t a", 1, 2), ("look", 1, 2), ("table t\nrow 0 X0\nlook t", 3, 3), ("table t\nrow 0 X0\nlook", 3, 2),
    ("table t\nrow 0 X0\nlook t a", 3, 3), ("table t\nrow 0 X0\n" + MEASURED + "look t c", 5, 3),
    ("table t\nrow 0 X0\n" + MEASURED + "look u a", 5, 2), ("table t\nrow 0 X0\n" + MEASURED + "look a a", 5, 2),
    ("table t\nrow 0 X0\n" + MEASURED + "look t a b", 5, 4), ("table t\nrow 00 X0\n" + MEASURED + "look t a", 5, 4),
    ("table t\nrow 00 X0\n" + MEASURED + "look t a ", 5, 4), ("table t\nrow 00 X0\n" + MEASURED + "look t  a", 5, 3),
    ("table t\nrow 00 X0\n" + MEASURED + "look t a + b", 5, 4), ("table t\nrow 00 X0\n" + MEASURED + "look t a b a", 5, 5),
    # flags
    ("flag a", 1, 2), ("flag", 1, 2), (MEASURED + "flag c", 3, 2), (MEASURED + "flag", 3, 2), (MEASURED + "flag a b", 3, 3),
    (MEASURED + "flag a", 4, 1), (MEASURED + "flag a\n", 4, 1), (MEASURED + "flag a\nh 0\n", 5, 1), ("end", 1, 1),
    (MEASURED + "flag a\nflag b\nend\nend", 4, 1), (MEASURED + "flag a\nflag c\nend", 4, 1), (MEASURED + "end", 3, 1),
    (MEASURED + "flag a\nend\nend", 5, 1), (MEASURED + "flag a\nend a", 4, 2), (MEASURED + "flag a\nend ", 4, 2),
    (MEASURED + "flag a\ntable t\nrow 0 X0\nend", 4, 1), (MEASURED + "flag a\nrow 0 X0\nend", 4, 1), ("end end", 1, 1),
    (MEASURED + "flag a\nmeasure X0 to a\nend", 4, 4), (MEASURED + "flag a\nif c then X0\nend", 4, 2),
    (MEASURED + "flag d\nmeasure X1 to d\nend", 3, 2), (MEASURED + "flag a\n\nend", 4, 1),
    # the first of several wrong lines, and of several wrong words
    ("h 0\nh 99\nh 99", 2, 2), ("cx 99 99 99", 1, 2), ("measure I ot A b", 1, 2), ("h 0\nend\nh 99", 2, 1),
]

RIGHT = [
    "", "h 0", "h 0\n", "h 11\ns 11\nx 11\ny 11\nz 11\nfresh 11\nlost 11\nwait 11\ncx 11 0\ncz 0 11\nswap 10 11\n",
    "measure -X0*Y1*Z11 to a", "measure X0 to abcdefghijkl", "measure X0 to a\nmeasure X0 to a0\nmeasure X0 to z9z",
    MEASURED + "if a then I", MEASURED + "if a then -I\nif a + b + a + a then -Z3*Z4\n",
    "measure X0 to to\nmeasure X0 to then\nif then then X0\nif to + then then X0\nflag then\nif then then X0\nend",
    "table t\nrow 0 I\nmeasure X0 to t\nlook t t", "table t\nrow 0 -I\nrow 1 -X3\ntable u\nrow 010 X1\n",
    "table t\nrow 0110 Z0\n" + MEASURED + "look t a a b a\n", "table end\nrow 1 X0\ntable row\nrow 11 Z0\n" + MEASURED + "look row a b",
    MEASURED + "flag a\nend\nflag a\nend", MEASURED + "flag a\nmeasure Y1 to c\nend\nif c then X0\nflag c\nlost 0\nend\n",
    "table t\nrow 0 X0\n" + MEASURED + "flag b\nlook t a\nif a + a then X0\nend",
    "measure X0 to measure\nmeasure Z0 to flag\nflag flag\nend",
]


class ProgramTest(unittest.TestCase):
    def test_wrong_texts(self):
        for text, line, column in WRONG:
            with self.subTest(text=text):
                error = refused(self, BadText, Program, SIZE, text)
                self.assertEqual((error.line, error.column), (line, column))

    def test_right_texts(self):
        for text in RIGHT:
            with self.subTest(text=text):
                program = Program(SIZE, text)
                self.assertEqual((program.size, program.text), (SIZE, text))
                words = [row.split(" ") for row in text.split("\n")]
                names = tuple(row[3] for row in words if row[0] == "measure")
                self.assertEqual(program.bits, names)
                self.assertIs(program.flagged, any(row[0] == "flag" for row in words))
                self.assertIs(program.steered, any(row[0] in ("if", "look") for row in words))

    def test_each_right_text_without_its_last_word_or_with_one_more(self):
        for text in RIGHT:
            rows = text.rstrip("\n").split("\n")
            for at, row in enumerate(rows):
                if row == "":
                    continue
                words = row.split(" ")
                error = refused(self, BadText, Program, SIZE, "\n".join([*rows[:at], row + " q", *rows[at + 1:]]))
                self.assertEqual((error.line, error.column), (at + 1, len(words) + 1))
                if len(words) > 1:
                    error = refused(self, BadText, Program, SIZE,
                                    "\n".join([*rows[:at], " ".join(words[:-1]), *rows[at + 1:]]))
                    self.assertEqual((error.line, error.column), (at + 1, len(words)))

    def test_each_wrong_word_at_each_place(self):
        for text in RIGHT:
            rows = text.rstrip("\n").split("\n")
            for at, row in enumerate(rows):
                words = row.split(" ")
                for column in range(1, len(words) + 1 if row else 0):
                    for wrong in ("", "A", "99", "?"):
                        told = " ".join([*words[:column - 1], wrong, *words[column:]])
                        error = refused(self, BadText, Program, SIZE, "\n".join([*rows[:at], told, *rows[at + 1:]]))
                        self.assertEqual((error.line, error.column), (at + 1, column), told)

    def test_every_place_of_every_size(self):
        for size in (1, 2, 9, 10, 11, 24, 30, 101):
            for place in range(size):
                Program(size, f"h {place}\nmeasure X{place} to a\nif a then -Y{place}")
            for place in (size, size + 1, 10 * size, -1):
                error = refused(self, BadText, Program, size, f"wait 0\nh {place}")
                self.assertEqual((error.line, error.column), (2, 2))
        self.assertEqual(refused(self, BadText, Program, 1, "swap 0 1").column, 3)

    def test_names_of_all_lengths(self):
        for length in range(1, 15):
            text = f"table {'t' * length}\nrow 0 I\nmeasure X0 to {'a' * length}"
            if length <= 12:
                self.assertEqual(Program(2, text).bits, ("a" * length,))
            else:
                self.assertEqual(refused(self, BadText, Program, 2, text).column, 2)

    def test_sizes_ahead_of_texts(self):
        for size in NO_SIZES:
            for text in ("", "h 0", "nothing", None, 3):
                error = refused(self, BadNumber, Program, size, text)
                self.assertEqual(error.what, "size")
                self.assertIs(error.number, size)

    def test_what_is_no_text(self):
        for text in (None, 0, 1, True, b"", b"h 0", ["h 0"], ("h 0",), {}, object(), 1.5):
            error = refused(self, BadText, Program, 3, text)
            self.assertEqual((error.line, error.column), (0, 0))

    def test_line_feeds_at_the_end(self):
        for text in RIGHT:
            told = text.rstrip("\n")
            if told:
                Program(SIZE, told + "\n")
                error = refused(self, BadText, Program, SIZE, told + "\n\n")
                self.assertEqual((error.line, error.column), (told.count("\n") + 2, 1))

    def test_sixty_lines_and_ten_bits(self):
        rows = [f"measure X{place} to b{place}" for place in range(10)] + ["cz 22 23"] * 50
        program = Program(24, "\n".join(rows))
        self.assertEqual(program.bits, tuple(f"b{place}" for place in range(10)))
        self.assertEqual((program.flagged, program.steered), (False, False))

    def test_errors_are_of_the_package(self):
        self.assertTrue(issubclass(BadText, KeptError))
        with self.assertRaises(ValueError):
            Program(1, "h 1")


if __name__ == "__main__":
    unittest.main()
