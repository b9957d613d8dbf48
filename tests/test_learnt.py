"""[63], [66]: what bits tell of what is stored."""

import itertools
import unittest

from plain import Made, all_letters, commute_with_all, kinds_list, refused, seeded, span_list, string, strings
from runner import random_text, run_all, standing_of
from keptqubits.codes import Code
from keptqubits.errors import HasFlag, HasLook, Unlike
from keptqubits.paulis import Pauli
from keptqubits.programs import Program
from keptqubits.runs import learnt


def bits_from(code, program, told):
    """The rows of bits that can come from the group joined with a string."""
    more = "I" * (program.size - code.size)
    given = [string(row.letters + more, row.phase) for row in [*code.group.rows, told]]
    return [run.row(program.bits) for run in run_all(program.size, program.text, standing_of(given))]


def is_told(code, program, told, names):
    """Whether bits of these names tell a string, by runs from the group joined with it and with its opposite."""
    at = [program.bits.index(name) for name in names]
    for phase, odd in ((0, 0), (2, 1)):
        for row in bits_from(code, program, string(told.letters, told.phase + phase)):
            if sum(row[k] for k in at) % 2 != odd:
                return False
    return True


def all_told(code, program):
    """The letters of all strings that the program learns, for any sums of bits."""
    kinds = kinds_list(code.size, code.group.rows, code.gauge)
    group_letters = [row.letters for row in code.group.rows]
    found = set()
    for letters in all_letters(code.size):
        if kinds[letters] not in ("hidden", "dressed") or not commute_with_all(letters, group_letters):
            continue
        rows = bits_from(code, program, Pauli(letters)), bits_from(code, program, string(letters, 2))
        for chosen in itertools.product((0, 1), repeat=len(program.bits)):
            sums = [{sum(a * b for a, b in zip(chosen, row)) % 2 for row in side} for side in rows]
            if sums in ([{0}, {1}], [{1}, {0}]):
                found.add(letters)
                break
    return found


class LearntTest(unittest.TestCase):
    def check(self, code, program):
        told = learnt(code, program)
        self.assertIs(told.__class__, tuple)
        gauge = [*code.group.rows, *code.gauge]
        for pair in told:
            self.assertIs(pair.__class__, tuple)
            learned, names = pair
            self.assertIn(learned.phase, (0, 2))
            self.assertEqual(learned.size, code.size)
            self.assertIs(names.__class__, tuple)
            self.assertEqual([name for name in program.bits if name in names], list(names))
            self.assertTrue(is_told(code, program, learned, names), (program.text, names))
        made = span_list(code.size, [*gauge, *[learned for learned, _ in told]])
        self.assertEqual(len(made), len(span_list(code.size, gauge)) << len(told))
        learned = all_told(code, program)
        self.assertLessEqual(learned, made)
        self.assertEqual(len(told) > 0, len(learned) > 0)
        return len(told)

    def test_random_programs(self):
        source = seeded(31)
        learned = {}
        for number in range(500):
            size = source.randint(1, 3)
            rank = source.randint(0, size)
            made = Made(source, size, rank, source.randint(0, min(1, size - rank)))
            code = Code(size, made.group, made.gauge)
            more = source.choice([0, 0, 1])
            text = random_text(source, size + more, source.randint(1, 14), most_bits=4, flags=False, looks=False,
                               losses=number % 2 == 0)
            many = self.check(code, Program(size + more, text))
            learned[many] = learned.get(many, 0) + 1
        self.assertGreater(learned[0], 30)
        self.assertGreater(learned[1], 20)
        self.assertGreater(learned[2], 2)

    def test_a_hidden_string(self):
        code = Code(2, strings("ZZ"))
        (told, names), = learnt(code, Program(2, "measure -X0*X1 to a\nmeasure Z0*Z1 to b"))
        self.assertEqual(told, Pauli("-XX") if told.letters == "XX" else Pauli("YY"))
        self.assertIn("a", names)

    def test_nothing_is_learned(self):
        code = Code(2, strings("ZZ"))
        for text in ("", "measure Z0*Z1 to a", "measure X0 to a", "lost 0\nmeasure Z0 to a", "fresh 0\nmeasure Z0 to a",
                     "h 0\nfresh 0\nmeasure Z0 to a", "measure X0 to a\nmeasure Z0*Z1 to b", "measure Y0 to a"):
            self.assertEqual(learnt(code, Program(2, text)), (), text)

    def test_only_a_sum_tells(self):
        code = Code(2, [])
        (told, names), = learnt(code, Program(3, "fresh 2\nh 2\nmeasure X0*Z2 to a\nmeasure Z2 to b"))
        self.assertEqual((told, names), (Pauli("XI"), ("a", "b")))
        program = Program(4, "fresh 1\nh 1\nfresh 2\nh 2\nmeasure Z1 to c\nmeasure Z0*Z1*Z2 to a\n"
                             "measure Z2 to b\nmeasure -Z1*Z2 to d")
        (told, names), = learnt(Code(1, []), program)
        self.assertEqual(told.letters, "Z")
        self.assertTrue(is_told(Code(1, []), program, told, names))

    def test_ifs_count(self):
        code = Code(1, [])
        (told, names), = learnt(code, Program(2, "measure X1 to a\nif a then X0\nmeasure -Z0 to b"))
        self.assertEqual((told, names), (Pauli("-Z"), ("a", "b")))

    def test_gauge_strings_are_not_stored(self):
        code = Code(2, [], strings("XI ZI"))
        self.assertEqual(learnt(code, Program(2, "measure X0 to a")), ())
        (told, names), = learnt(code, Program(2, "measure X0*Z1 to a\nmeasure X0 to b"))
        self.assertIn((told.letters, names), (("XZ", ("a",)), ("IZ", ("a", "b"))))

    def test_gates_and_signs(self):
        code = Code(1, [])
        for gates, letters in (("", "X"), ("s 0", "-Y"), ("s 0\ns 0", "-X"), ("s 0\ns 0\ns 0", "Y"), ("h 0", "Z"), ("z 0", "-X"),
                               ("s 0\nh 0", "Z"), ("h 0\ns 0", "Y"), ("h 0\ns 0\nx 0", "Y"), ("h 0\ns 0\nz 0", "-Y")):
            (told, names), = learnt(code, Program(1, f"{gates}\nmeasure X0 to a".strip()))
            self.assertEqual(names, ("a",))
            self.assertTrue(is_told(code, Program(1, f"{gates}\nmeasure X0 to a".strip()), told, names), gates)
            self.assertEqual(told.letters, letters[-1])

    def test_ifs_that_read_a_bit_twice(self):
        code = Code(1, [])
        for named, wanted in (("a + a", ("b",)), ("a", ("a", "b")), ("a + a + a", ("a", "b"))):
            (told, names), = learnt(code, Program(2, f"measure X1 to a\nif {named} then X0\nmeasure Z0 to b"))
            self.assertEqual((told, names), (Pauli("Z"), wanted))

    def test_helpers_tell_nothing(self):
        code = Code(1, [])
        self.assertEqual(learnt(code, Program(2, "measure Z0*Z1 to a\nmeasure X1 to b")), ())
        self.assertEqual(len(learnt(code, Program(2, "fresh 1\ncx 0 1\nmeasure Z1 to a"))), 1)
        self.assertEqual(learnt(code, Program(2, "cx 0 1\nmeasure Z1 to a")), ())

    def test_errors(self):
        code = Code(2, strings("ZZ"))
        look = "table t\nrow 0 I\nmeasure Z0 to a\nlook t a\n"
        flag = "measure Z0 to b\nflag b\nend\n"
        self.assertEqual(refused(self, Unlike, learnt, code, Program(1, look)).what, "size")
        self.assertEqual(refused(self, Unlike, learnt, code, Program(1, flag)).what, "size")
        self.assertEqual(refused(self, Unlike, learnt, code, Program(1, look + flag)).what, "size")
        refused(self, HasFlag, learnt, code, Program(2, flag))
        refused(self, HasFlag, learnt, code, Program(3, look + flag))
        refused(self, HasLook, learnt, code, Program(2, look))


if __name__ == "__main__":
    unittest.main()
