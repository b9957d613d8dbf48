"""[67] to [79]: faults at any line of a round."""

import itertools
import unittest

from plain import all_letters, letters_times, refused, seeded, string, strings
from roundtexts import (SMALL_CODES, RoundText, class_of, code_of, fault_rows, is_mended, is_round, runs_with)
from runner import all_faults
from keptqubits.codes import Code
from keptqubits.errors import BadGauge, BadNumber, NotARound, Unlike
from keptqubits.faults import (Fault, Left, Loss, Spite, faults_of, greatest_left, least_loss, left, spite, weight_of)
from keptqubits.paulis import Pauli
from keptqubits.programs import Program
from keptqubits.tables import lightest

FLIPS = code_of("ZZI IZZ")
BOTH = "measure Z0*Z1 to a\nmeasure Z1*Z2 to b\n"
NO_NUMBERS = (-1, 4, 5, True, False, None, "1", 1.0, (1,), [1], 10 ** 30)
EVERY_LINE = ("table t\nrow 01 X0*Z2\nrow 11 Y3\nh 0\nh 0\ns 3\nx 1\ny 2\nz 0\ncx 3 0\ncx 3 0\ncz 2 0\ncz 0 2\nswap 3 1\n"
              "swap 1 3\nfresh 3\nlost 3\nwait 2\nmeasure -Z0*Z2 to a\nmeasure X3 to b\nif a + b then X1*Y3\nif a then -I\nlook t a b\nflag a\nmeasure Z0*Z1 to c\nx 0\nend\n")


def plain_rows(faults):
    return [(fault.line, fault.string.letters, fault.flip) for fault in faults]


def made(rows):
    return [Fault(line, Pauli(letters), flip) for line, letters, flip in rows]


def random_rounds(seed, many, pieces=6, flags=True):
    """So many random rounds, each as (code, size, text)."""
    source = seeded(seed)
    found = 0
    while found < many:
        code = code_of(source.choice(SMALL_CODES))
        size = code.size + source.choice([0, 0, 1, 1, 2])
        text = RoundText(source, code, size, source.randint(0, pieces), flags=flags).text
        if is_round(code, size, text):
            found += 1
            yield source, code, size, text


def some_table(source, code):
    """A table of a code: mostly the lightest strings, now and then none or another one."""
    found = {}
    for syndrome, told in lightest(code).items():
        chance = source.random()
        if chance < 0.8:
            found[syndrome] = told
        elif chance < 0.9:
            found[syndrome] = string("".join(source.choice("IXYZ") for _ in range(code.size)), 2)
    return found


def loses(code, size, text, table, rows, error=None):
    """The rows of bits with which all of these faults happen and the class left is not mended."""
    return [bits for bits, told, happened in runs_with(code, size, text, rows, error)
            if len(happened) == len(rows) and not is_mended(code, table, told)]


class FaultsOfTest(unittest.TestCase):
    def test_every_kind_of_line(self):
        told = faults_of(Program(4, EVERY_LINE))
        self.assertIs(told.__class__, tuple)
        self.assertEqual(plain_rows(told), all_faults(4, EVERY_LINE))
        self.assertTrue(all(fault.__class__ is Fault and fault.string.phase == 0 and fault.string.size == 4
                            and fault.flip.__class__ is bool for fault in told))
        many = {line: [fault.line for fault in told].count(line) for line in range(1, 29)}
        self.assertEqual([many[line] for line in range(1, 29)],
                         [0, 0, 0, 3, 3, 3, 3, 3, 3, 15, 15, 15, 15, 15, 15, 3, 0, 3, 31, 7, 15, 0, 63, 0, 31, 3, 0, 0])

    def test_one_measure_in_order(self):
        told = faults_of(Program(3, "table t\nrow 1 I\nmeasure X2 to a\nlook t a\nif a then I"))
        self.assertEqual(plain_rows(told), [(3, "III", True), (3, "IIX", False), (3, "IIX", True), (3, "IIY", False),
                                            (3, "IIY", True), (3, "IIZ", False), (3, "IIZ", True)])

    def test_none(self):
        self.assertEqual(faults_of(Program(2, "")), ())
        self.assertEqual(faults_of(Program(2, "lost 0\nlost 1")), ())

    def test_random_programs(self):
        for _, _, size, text in random_rounds(50, 30):
            self.assertEqual(plain_rows(faults_of(Program(size, text))), all_faults(size, text))

    def test_equality(self):
        one = Fault(1, Pauli("XI"), False)
        self.assertEqual(one, Fault(1, Pauli("XI"), False))
        for other in (Fault(2, Pauli("XI"), False), Fault(1, Pauli("IX"), False), Fault(1, Pauli("XI"), True),
                      Fault(1, Pauli("-XI"), False), (1, Pauli("XI"), False), None, 1):
            self.assertFalse(one == other)
            self.assertTrue(one != other)
        other = Fault(-7, Pauli("-iXYZ"), True)
        self.assertEqual((other.line, other.string, other.flip), (-7, Pauli("-iXYZ"), True))


class LeftTest(unittest.TestCase):
    def check(self, code, size, text, rows):
        told = left(code, Program(size, text), made(rows))
        wanted = sorted((bits, pair) for bits, pair, _ in runs_with(code, size, text, rows))
        self.assertIs(told.__class__, tuple)
        self.assertTrue(all(one.__class__ is Left for one in told))
        self.assertEqual([(one.bits, (one.syndrome, one.hidden)) for one in told], wanted, (text, rows))
        return wanted

    def test_random_faults(self):
        ruined = coins = idle = 0
        for source, code, size, text in random_rounds(51, 150):
            faults = all_faults(size, text)
            for _ in range(6):
                rows = source.sample(faults, min(len(faults), source.randint(0, 4)))
                rows = list({line: (line, letters, flip) for line, letters, flip in rows}.values())
                wanted = self.check(code, size, text, rows)
                ruined += any(pair == (None, None) for _, pair in wanted)
                coins += len(wanted) > 1
                idle += any(len(happened) < len(rows) for _, _, happened in runs_with(code, size, text, rows))
        self.assertGreater(min(ruined, coins, idle), 4)

    def test_each_fault_alone_at_each_kind_of_line(self):
        code = code_of("ZZI IZZ XXX")
        for row in all_faults(4, EVERY_LINE):
            self.check(code, 4, EVERY_LINE, [row])

    def test_a_flip_is_read_from_there_on(self):
        told, = left(FLIPS, Program(3, BOTH + "if a then X0"), [Fault(1, Pauli("III"), True)])
        self.assertEqual((told.bits, told.syndrome, told.hidden), ((1, 0), (1, 0), class_of(FLIPS, Pauli("XII"))[1]))
        told, = left(FLIPS, Program(3, BOTH), [Fault(1, Pauli("XII"), True)])
        self.assertEqual((told.bits, told.syndrome), ((1, 0), (1, 0)))
        told, = left(FLIPS, Program(3, BOTH), [Fault(2, Pauli("IXI"), False), Fault(1, Pauli("XII"), False)])
        self.assertEqual((told.bits, told.syndrome), ((0, 0), (1, 1)))

    def test_ruined(self):
        text = "measure Z0*Z1 to a\nflag a\nmeasure X0 to b\nend\nmeasure Z1*Z2 to c"
        told = left(FLIPS, Program(3, text), [Fault(1, Pauli("III"), True)])
        self.assertEqual([(one.bits, one.syndrome, one.hidden) for one in told],
                         [((1, 0, 0), None, None), ((1, 1, 0), None, None)])
        told, = left(FLIPS, Program(3, text), [])
        self.assertEqual((told.bits, told.syndrome, told.hidden), ((0, 0, 0), (0, 0), (0, 0)))

    def test_bad_faults(self):
        program = Program(4, "table t\nrow 1 Z1\nmeasure Z0*Z1 to a\nlook t a\nlost 3\nif a then X0\nflag a\nwait 2\nend")
        good = Fault(3, Pauli("XIII"), True)
        for bad in (Fault(0, Pauli("XIII"), False), Fault(1, Pauli("IIII"), False), Fault(2, Pauli("IZII"), False),
                    Fault(3, Pauli("IIII"), False), Fault(3, Pauli("IIXI"), False), Fault(3, Pauli("-XIII"), False),
                    Fault(3, Pauli("iXIII"), False), Fault(3, Pauli("XII"), False), Fault(3, Pauli("XIIII"), True),
                    Fault(4, Pauli("IXII"), True), Fault(4, Pauli("XIII"), False), Fault(4, Pauli("IIII"), True),
                    Fault(5, Pauli("IIIX"), False), Fault(6, Pauli("IIII"), True), Fault(7, Pauli("IIII"), False),
                    Fault(8, Pauli("IIIX"), False), Fault(9, Pauli("IIII"), True), Fault(10, Pauli("XIII"), False),
                    Fault(-1, Pauli("XIII"), False), Fault(10 ** 30, Pauli("XIII"), False)):
            for faults in ([bad], [bad, bad], [bad, good]):
                error = refused(self, BadNumber, left, FLIPS, program, faults)
                self.assertEqual((error.what, error.number), ("fault", 0))
            error = refused(self, BadNumber, left, FLIPS, program, [Fault(4, Pauli("IYII"), False), bad, bad])
            self.assertEqual((error.what, error.number), ("fault", 1))
        for twice in (good, Fault(3, Pauli("IXII"), False), Fault(3, Pauli("IIII"), True)):
            error = refused(self, BadNumber, left, FLIPS, program, [good, Fault(8, Pauli("IIYI"), False), twice, twice])
            self.assertEqual((error.what, error.number), ("fault", 2))
        self.assertEqual(len(left(FLIPS, program, (good, Fault(8, Pauli("IIYI"), False)))), 1)


class SharedErrorsTest(unittest.TestCase):
    CALLS = (lambda code, program: left(code, program, [Fault(99, Pauli("X"), True)]),
             lambda code, program: least_loss(code, program, {}, 4), lambda code, program: spite(code, program, {}, None),
             lambda code, program: greatest_left(code, program, -1))

    def test_in_their_order(self):
        gauged = Code(2, [], strings("XI ZI"))
        trivial = Code(2, strings("ZZ"), strings("ZZ"))
        for call in self.CALLS:
            for code in (gauged, trivial):
                for program in (Program(1, "lost 0"), Program(2, "lost 0"), Program(2, "")):
                    self.assertEqual(refused(self, BadGauge, call, code, program).index, 0)
            for program in (Program(2, "lost 0"), Program(1, "")):
                self.assertEqual(refused(self, Unlike, call, FLIPS, program).what, "size")
            refused(self, NotARound, call, FLIPS, Program(3, "lost 0"))
            self.assertEqual(refused(self, BadNumber, call, FLIPS, Program(3, "")).__class__, BadNumber)

    def test_what_is_no_round(self):
        no_rounds = ("lost 0", "fresh 1", "h 0", "s 0", "cx 0 1", "measure X0 to a", "measure X0*X1*X2 to a",
                     "measure Z0 to a", "cz 0 3", "cx 0 3", "swap 2 3", "measure Z0*Z3 to a\nmeasure X3 to b\nmeasure Z3 to c",
                     "fresh 3\nh 3\nmeasure Z3 to a\nflag a\nlost 0\nend", "fresh 3\nh 3\nmeasure Z3 to a\nflag a\nend\nlost 0",
                     "measure Z0*Z1 to a\nmeasure X3 to b\nflag b\nmeasure X0 to c\nend")
        rounds = ("", "lost 3", "fresh 3", "h 3", "x 0", "measure Z0*Z1 to a", "h 0\nh 0", "cx 0 1\ncx 0 1", "z 2\ny 1\nx 0", "swap 0 1",
                  "measure Z0*Z1 to a\nflag a\nlost 0\nend", "fresh 3\nmeasure Z3 to a\nflag a\nmeasure X0 to b\nend",
                  "fresh 3\ncx 0 3\ncx 1 3\nmeasure Z3 to a", "cz 3 0\ncz 3 0\nlost 3", "swap 3 0\nswap 0 3",
                  "fresh 3\nh 3\nmeasure Z3 to a\nif a then X0\nflag a\nx 0\nend",
                  "table t\nrow 1 X0*X1*X2\nmeasure X3 to a\nlook t a", "measure X3 to a\nflag a\nfresh 3\nend\nfresh 3")
        for text in no_rounds:
            self.assertFalse(is_round(FLIPS, 4, text), text)
            refused(self, NotARound, left, FLIPS, Program(4, text), [])
        for text in rounds:
            self.assertTrue(is_round(FLIPS, 4, text), text)
            left(FLIPS, Program(4, text), [])

    def test_other_errors(self):
        program = Program(3, BOTH)
        for number in NO_NUMBERS:
            error = refused(self, BadNumber, least_loss, FLIPS, program, {}, number)
            self.assertEqual((error.what, error.number is number), ("most", True))
            for call in (lambda: spite(FLIPS, program, {}, number), lambda: greatest_left(FLIPS, program, number)):
                error = refused(self, BadNumber, call)
                self.assertEqual((error.what, error.number is number), ("t", True))


class LossTest(unittest.TestCase):
    def check(self, code, size, text, table, most):
        """Compare least_loss and spite with a look at all rows of faults."""
        program = Program(size, text)
        fewest = next((len(rows) for rows in fault_rows(size, text, most) if loses(code, size, text, table, rows)), None)
        told = least_loss(code, program, table, most)
        if fewest is None:
            self.assertIsNone(told, (text, most))
        else:
            self.assertIs(told.__class__, Loss)
            self.assertEqual((told.number, len(told.faults)), (fewest, fewest))
            rows = plain_rows(told.faults)
            self.assertEqual(rows, sorted(rows))
            self.assertIn(told.bits, loses(code, size, text, table, rows))
            for fault in told.faults:
                self.assertIn(fault, faults_of(program))
        return fewest

    def check_spite(self, code, size, text, table, t):
        letters = [letters for letters in all_letters(code.size) if code.size - letters.count("I") <= t]
        held = not any(loses(code, size, text, table, rows, Pauli(error)) for error in letters
                       for rows in fault_rows(size, text, t - (code.size - error.count("I"))))
        told = spite(code, Program(size, text), table, t)
        if held:
            self.assertIsNone(told)
        else:
            self.assertIs(told.__class__, Spite)
            self.assertEqual((told.error.phase, told.error.size), (0, code.size))
            self.assertLessEqual(told.error.weight + len(told.faults), t)
            rows = plain_rows(told.faults)
            self.assertEqual(rows, sorted(rows))
            self.assertTrue(loses(code, size, text, table, rows, told.error))
        return held

    def test_random_rounds(self):
        fewest, held = [], []
        for source, code, size, text in random_rounds(52, 150, 4):
            table = some_table(source, code)
            most = 2 if len(all_faults(size, text)) < 45 else 1
            for number in range(most + 1):
                fewest.append(self.check(code, size, text, table, number))
                held.append(self.check_spite(code, size, text, table, number))
        for number in (None, 0, 1):
            self.assertGreater(fewest.count(number), 20)
        self.assertGreater(min(held.count(True), held.count(False)), 20)

    def test_two_faults(self):
        # codes that keep nothing, and tables that lack what one fault may not leave
        source = seeded(54)
        fewest = []
        while len(fewest) < 60:
            code = code_of(source.choice(("ZI IZ", "ZX XZ", "ZII IZI IIZ", "XX ZZ")))
            size = code.size + source.choice((0, 0, 1))
            text = RoundText(source, code, size, source.randint(2, 6), 3).text
            faults = all_faults(size, text)
            if not is_round(code, size, text) or len(faults) > 80:
                continue
            table = lightest(code)
            del table[source.choice([syndrome for syndrome in table if 1 in syndrome])]
            if not [rows for rows in fault_rows(size, text, 1) if loses(code, size, text, table, rows)] or not fewest:
                fewest.append(self.check(code, size, text, table, 2))
                self.check_spite(code, size, text, table, 2)
        self.assertGreater(fewest.count(2), 10)

    def test_three_faults(self):
        # a code that keeps nothing, and a table that lacks what three faults leave
        code = code_of("ZIII IZII IIZI IIIZ")
        text = "wait 0\nwait 1\nwait 2\n"
        table = {syndrome: told for syndrome, told in lightest(code).items() if sum(syndrome) < 3}
        for most in range(4):
            self.assertEqual(self.check(code, 4, text, table, most), 3 if most == 3 else None)
            self.assertEqual(self.check_spite(code, 4, text, table, most), most < 3)

    def test_faults_at_lines_that_are_not_run_do_not_count(self):
        # only a fault at a line of the flag loses, and the flag is run only by another fault
        code = code_of("Z")
        text = "measure Z0 to a\nflag a\nwait 0\nend\nmeasure Z0 to b\n"
        table = lightest(code)
        for most in range(3):
            self.check(code, 1, text, table, most)
        self.assertEqual(self.check(code, 2, "fresh 1\nmeasure Z1 to a\nflag a\nx 0\nend\n", {}, 1), 1)

    def test_lost_without_faults(self):
        for code, text, table in ((FLIPS, "x 0", {}), (FLIPS, "measure X3 to a\nif a then X0*X1*X2", lightest(FLIPS)),
                                  (FLIPS, "x 0\nx 1\nx 2", lightest(FLIPS)), (FLIPS, "", {(0, 0): Pauli("XXX")})):
            program = Program(4, text)
            for most in range(4):
                told = least_loss(code, program, table, most)
                self.assertEqual((told.number, told.faults), (0, ()))
                self.assertIn(told.bits, loses(code, 4, text, table, []))
                told = spite(code, program, table, most)
                self.assertTrue(loses(code, 4, text, table, plain_rows(told.faults), told.error))

    def test_the_example(self):
        table = lightest(FLIPS)
        self.assertIsNone(least_loss(FLIPS, Program(3, BOTH), table, 0))
        self.assertEqual(self.check(FLIPS, 3, BOTH, table, 1), 1)
        self.assertIsNone(spite(FLIPS, Program(3, BOTH), table, 0))
        self.assertFalse(self.check_spite(FLIPS, 3, BOTH, table, 1))
        # one letter X anywhere is mended, each letter Z is not
        for letters in all_letters(3):
            told, = left(FLIPS, Program(3, BOTH), [Fault(1, Pauli(letters[:2] + "I"), False)]) \
                if letters[:2] != "II" else left(FLIPS, Program(3, BOTH), [])
            mended = is_mended(FLIPS, table, (told.syndrome, told.hidden))
            self.assertEqual(mended, letters[:2] in ("II", "XI", "IX", "ZZ", "YZ", "ZY"))
        self.assertEqual(left(FLIPS, Program(3, BOTH), [])[0].bits, (0, 0))

    def test_tables_with_signs_and_other_keys(self):
        table = {syndrome: string(told.letters, 2) for syndrome, told in lightest(FLIPS).items()}
        table[(0, 1, 1)] = Pauli("ZZZ")
        table["no"] = Pauli("XXX")
        self.assertEqual(self.check(FLIPS, 3, "wait 0\n", table, 0), None)
        self.assertEqual(self.check(FLIPS, 3, "wait 0\n", table, 1), 1)

    def test_sixty_lines(self):
        code = code_of("XZZXI IXZZX XIXZZ ZXIXZ")
        rows = [f"measure {word} to {name}" for word, name in (("X0*Z1*Z2*X3", "a"), ("X1*Z2*Z3*X4", "b"),
                                                               ("X0*X2*Z3*Z4", "c"), ("Z0*X1*X3*Z4", "d"))]
        program = Program(5, "\n".join(rows + ["wait 4"] * 56))
        told = least_loss(code, program, lightest(code), 1)
        self.assertEqual(told.number, 1)
        self.assertIsNone(least_loss(code, Program(5, "wait 0\n" * 60), lightest(code), 1))
        self.assertEqual(least_loss(code, Program(5, "wait 0\nwait 1\n"), lightest(code), 2).number, 2)
        self.assertIsNone(spite(code, Program(5, "wait 0\n" * 60), lightest(code), 1))


class GreatestLeftTest(unittest.TestCase):
    def test_random_rounds(self):
        none = 0
        for _, code, size, text in random_rounds(53, 90, 4):
            weights = {}
            for letters in all_letters(code.size):
                pair = class_of(code, Pauli(letters))
                weights[pair] = min(code.size - letters.count("I"), weights.get(pair, code.size))
            for t in range(3 if len(all_faults(size, text)) < 45 else 2):
                found = {pair for rows in fault_rows(size, text, t) for _, pair, _ in runs_with(code, size, text, rows)}
                wanted = None if (None, None) in found else max(weights[pair] for pair in found)
                self.assertEqual(greatest_left(code, Program(size, text), t), wanted)
                none += wanted is None
        self.assertGreater(none, 2)

    def test_three_faults_and_none(self):
        code = code_of("ZZZZ XXXX")
        self.assertEqual([greatest_left(code, Program(4, "wait 0\nwait 1\nwait 2"), t) for t in range(4)], [0, 1, 2, 3])
        text = "measure Z0*Z1*Z2*Z3 to a\nflag a\nlost 0\nend"
        self.assertEqual([greatest_left(code, Program(4, text), t) for t in range(2)], [0, None])


class WeightOfTest(unittest.TestCase):
    def test_all_classes(self):
        for words in (*SMALL_CODES, "XZZXI IXZZX XIXZZ ZXIXZ", "-XXXXXX ZZZZZZ"):
            code = code_of(words)
            found = {}
            for letters in all_letters(code.size):
                pair = class_of(code, Pauli(letters))
                found[pair] = min(code.size - letters.count("I"), found.get(pair, code.size))
            self.assertEqual(len(found), 2 ** (code.size + code.kept))
            for (syndrome, hidden), wanted in found.items():
                self.assertEqual(weight_of(code, syndrome, hidden), wanted)

    def test_told_hidden_pairs(self):
        code = code_of("ZZI IZZ", hidden=[(Pauli("-YYY"), Pauli("ZZZ"))])
        for letters in all_letters(3):
            told = [letters_times(letters, other) for other in ("III", "ZZI", "IZZ", "ZIZ")]
            syndrome, hidden = class_of(code, Pauli(letters))
            self.assertEqual(weight_of(code, syndrome, hidden), min(3 - other.count("I") for other in told))

    def test_errors(self):
        gauged = Code(2, [], strings("XI ZI"))
        self.assertEqual(refused(self, BadGauge, weight_of, gauged, None, None).index, 0)
        no_rows = [None, 0, "00", [0, 0], (0,), (0, 0, 0), (), (0, 2), (0, -1), (True, 0), (0, False), (0, "0"), (0, None),
                   (0.0, 0), ((0,), 0), {0: 0}]
        for bad in no_rows:
            for other in (None, (0, 0), (0,)):
                error = refused(self, BadNumber, weight_of, FLIPS, bad, other)
                self.assertEqual((error.what, error.number is bad), ("syndrome", True))
            error = refused(self, BadNumber, weight_of, FLIPS, (0, 1), bad)
            self.assertEqual((error.what, error.number is bad), ("hidden", True))
        self.assertEqual(weight_of(code_of("Z"), (1,), ()), 1)


class HelperTest(unittest.TestCase):
    def test_rounds_of_the_tests(self):
        # the tests' own runs: a fault at one line is run like the string itself
        for letters, other in itertools.product(("XI", "ZY"), repeat=2):
            told = runs_with(code_of("ZZ"), 2, "wait 0\nwait 1", [], Pauli(letters_times(letters, other)))
            self.assertEqual(told[0][1], class_of(code_of("ZZ"), Pauli(letters_times(letters, other))))


if __name__ == "__main__":
    unittest.main()
