"""[53] to [57], [61], [62], [65]: runs of programs, and programs that are alike."""

import itertools
import time
import unittest
from fractions import Fraction

from plain import Made, refused, seeded, single, some_made, string, strings, texts
from runner import names_of, random_letters, random_text, run_all, same_standing, standing_of, word
from keptqubits.codes import Code
from keptqubits.errors import Unlike
from keptqubits.groups import Group
from keptqubits.losses import mender
from keptqubits.paulis import Pauli
from keptqubits.programs import Program
from keptqubits.runs import Difference, Run, alike, runs

# what the gates make of letters: [54], and what follows from it for the letter Y and for products
SINGLE = {
    "h": {"X": "Z", "Y": "-Y", "Z": "X"}, "s": {"X": "Y", "Y": "-X", "Z": "Z"}, "x": {"X": "X", "Y": "-Y", "Z": "-Z"},
    "y": {"X": "-X", "Y": "Y", "Z": "-Z"}, "z": {"X": "-X", "Y": "-Y", "Z": "Z"},
}
DOUBLE = {
    "cx": {"XI": "XX", "YI": "YX", "ZI": "ZI", "IX": "IX", "IY": "ZY", "IZ": "ZZ", "XX": "XI", "XY": "YZ", "XZ": "-YY",
           "YX": "YI", "YY": "-XZ", "YZ": "XY", "ZX": "ZX", "ZY": "IY", "ZZ": "IZ"},
    "cz": {"XI": "XZ", "YI": "YZ", "ZI": "ZI", "IX": "ZX", "IY": "ZY", "IZ": "IZ", "XX": "YY", "XY": "-YX", "XZ": "XI",
           "YX": "-XY", "YY": "XX", "YZ": "YI", "ZX": "IX", "ZY": "IY", "ZZ": "ZZ"},
    "swap": {first + other: other + first for first in "IXYZ" for other in "IXYZ" if first + other != "II"},
}


def behind(program, group):
    """What a program without coins makes of a group."""
    told, = runs(program, group)
    return told.group


def rows_of(size, text, words):
    """The strings behind a program without coins, for a standing told by texts."""
    return texts(behind(Program(size, text), Group(len(words.split()[0].lstrip("+-")), strings(words))).rows)


def negated(text):
    return text[1:] if text.startswith("-") else "-" + text


def all_told(program, made):
    """The runs as triples of plain values."""
    return [(run.bits, run.halves, texts(run.group.rows)) for run in runs(program, made)]


def check_runs(case, size, text, given):
    """Compare all runs with those of the tests' own; how many they are."""
    program = Program(size, text)
    told = runs(program, Group(given[0].size if given else size, given))
    wanted = sorted(run_all(size, text, standing_of(given)), key=lambda run: run.row(program.bits))
    case.assertIs(told.__class__, tuple)
    case.assertEqual([run.bits for run in told], [run.row(program.bits) for run in wanted], text)
    for run, other in zip(told, wanted):
        case.assertIs(run.__class__, Run)
        case.assertIs(run.group.__class__, Group)
        case.assertEqual(run.halves, other.halves)
        case.assertTrue(same_standing(other.standing, run.group), text)
    case.assertEqual(sum(Fraction(1, 2 ** run.halves) for run in told), 1)
    return len(told)


class GateTest(unittest.TestCase):
    def test_gates_of_one_place(self):
        for gate, images in SINGLE.items():
            for letter, image in images.items():
                self.assertEqual(rows_of(1, f"{gate} 0", letter), [image])
                self.assertEqual(rows_of(1, f"{gate} 0\n", "-" + letter), [negated(image)])
                for place in range(3):
                    ahead, there = "YZX"[:place], "ZXY"[place + 1:]
                    sign = "-" if image.startswith("-") else ""
                    self.assertEqual(rows_of(3, f"{gate} {place}", ahead + letter + there),
                                     [sign + ahead + image.lstrip("-") + there])

    def test_gates_of_two_places(self):
        for gate, images in DOUBLE.items():
            for letters, image in images.items():
                self.assertEqual(rows_of(2, f"{gate} 0 1", letters), [image])
                self.assertEqual(rows_of(2, f"{gate} 0 1", "-" + letters), [negated(image)])
                sign, told = ("-", image[1:]) if image.startswith("-") else ("", image)
                self.assertEqual(rows_of(2, f"{gate} 1 0", letters[::-1]), [sign + told[::-1]])
                self.assertEqual(rows_of(4, f"{gate} 3 1", "X" + letters[1] + "Y" + letters[0]),
                                 [sign + "X" + told[1] + "Y" + told[0]])

    def test_products_go_to_products(self):
        source = seeded(21)
        for _ in range(40):
            size = source.randint(2, 5)
            gate = source.choice([*SINGLE, *DOUBLE])
            places = source.sample(range(size), 1 if gate in SINGLE else 2)
            program = Program(size, " ".join([gate, *map(str, places)]))
            made = Made(source, size, size)
            images = [behind(program, Group(size, [row])).rows[0] for row in made.group]
            for one, other in itertools.combinations(range(size), 2):
                told = behind(program, Group(size, [made.group[one].times(made.group[other])])).rows
                self.assertEqual(list(told), [images[one].times(images[other])])

    def test_wait_and_what_stands_elsewhere(self):
        self.assertEqual(rows_of(2, "wait 0\nwait 1", "-YXI ZZI"), rows_of(2, "", "-YXI ZZI"))
        self.assertEqual(rows_of(2, "h 0\ns 1\ncx 0 1\nswap 0 1\nfresh 1\nlost 0", "IIX"), ["IIX", "IZI"])


class LineTest(unittest.TestCase):
    def test_put_on(self):
        for gate, letter in (("x", "X"), ("y", "Y"), ("z", "Z")):
            for row in ("X", "Y", "Z", "-X", "-Y", "-Z"):
                put = f"measure {row[-1]}0 to a\nif a then {letter}0\nif a then -{letter}0\n"
                self.assertEqual(rows_of(1, put, row), [row])
                once = f"measure -{row}0 to a\nif a then -{letter}0\n".replace("--", "")
                self.assertEqual(rows_of(1, once, row), rows_of(1, f"{gate} 0", row))

    def test_a_sure_string(self):
        for sign, other, bit in (("", "", 0), ("-", "", 1), ("", "-", 1), ("-", "-", 0)):
            told, = runs(Program(2, f"measure {sign}X0*X1 to a"), Group(2, strings(f"{other}XX ZZ")))
            self.assertEqual((told.bits, told.halves, texts(told.group.rows)), ((bit,), 0, [other + "XX", "ZZ"]))
        told, = runs(Program(2, "measure Y0*Y1 to a"), Group(2, strings("XX ZZ")))
        self.assertEqual((told.bits, told.halves), ((1,), 0))

    def test_a_coin_that_anticommutes(self):
        told = runs(Program(2, "measure -Z0 to a"), Group(2, strings("XX -ZZ")))
        self.assertEqual([(run.bits, run.halves, texts(run.group.rows)) for run in told],
                         [((0,), 1, ["-ZI", "IZ"]), ((1,), 1, ["ZI", "-IZ"])])

    def test_a_coin_that_commutes(self):
        told = runs(Program(2, "measure X0*X1 to a"), Group(2, strings("-ZZ")))
        self.assertEqual([(run.bits, run.halves, texts(run.group.rows)) for run in told],
                         [((0,), 1, ["XX", "-ZZ"]), ((1,), 1, ["-XX", "-ZZ"])])

    def test_lost_and_fresh(self):
        self.assertEqual(rows_of(3, "lost 1", "XXI IXX ZZZ"), ["XIX"])
        self.assertEqual(rows_of(3, "fresh 1", "XXI IXX ZZZ"), ["XIX", "IZI"])
        self.assertEqual(rows_of(3, "lost 0", "-IXX -IZZ"), ["-IXX", "-IZZ"])
        self.assertEqual(rows_of(2, "fresh 0\nfresh 0\nfresh 1", "-ZI -IZ"), ["ZI", "IZ"])
        self.assertEqual(rows_of(1, "lost 0\nlost 0", "X"), [])

    def test_ifs(self):
        bits = ["a", "b", "c"]
        lines = "measure Z0 to a\nmeasure Z1 to b\nmeasure Z2 to c\n"
        for many in range(1, 5):
            for named in itertools.product(bits, repeat=many):
                program = Program(4, f"{lines}if {' + '.join(named)} then X3")
                for values in itertools.product((0, 1), repeat=3):
                    given = [single(4, place, "Z", 2 * value) for place, value in enumerate([*values, 0])]
                    told, = runs(program, Group(4, given))
                    odd = sum(values[bits.index(name)] for name in named) % 2
                    self.assertEqual(told.bits, values)
                    self.assertEqual(told.group.sign_of(Pauli("IIIZ")), -1 if odd else 1)

    def test_looks(self):
        table = "table t\nrow 01 X2\nrow 11 Y3\nrow 10 -X2*X3\n"
        for named in itertools.product("ab", repeat=2):
            program = Program(4, f"{table}measure Z0 to a\nmeasure Z1 to b\nlook t {' '.join(named)}")
            for values in itertools.product((0, 1), repeat=2):
                given = [single(4, place, "Z", 2 * value) for place, value in enumerate([*values, 0, 0])]
                told, = runs(program, Group(4, given))
                key = "".join(str(values["ab".index(name)]) for name in named)
                put = {"01": (-1, 1), "11": (1, -1), "10": (-1, -1), "00": (1, 1)}[key]
                self.assertEqual((told.group.sign_of(Pauli("IIZI")), told.group.sign_of(Pauli("IIIZ"))), put)

    def test_flags(self):
        program = Program(2, "measure Z0 to a\nflag a\nmeasure X1 to b\nx 0\nend\nif b then Z0\nmeasure Z0 to c")
        told = runs(program, Group(2, strings("ZI IZ")))
        self.assertEqual([(run.bits, run.halves, texts(run.group.rows)) for run in told],
                         [((0, 0, 0), 0, ["ZI", "IZ"])])
        told = runs(program, Group(2, strings("-ZI IZ")))
        self.assertEqual([(run.bits, run.halves, texts(run.group.rows)) for run in told],
                         [((1, 0, 0), 1, ["IX", "ZI"]), ((1, 1, 0), 1, ["-IX", "ZI"])])

    def test_flags_whose_strings_differ(self):
        program = Program(1, "measure X0 to a\nflag a\nh 0\nend\nmeasure X0 to b\n")
        told = runs(program, Group(1, []))
        self.assertEqual([(run.bits, run.halves, texts(run.group.rows)) for run in told],
                         [((0, 0), 1, ["X"]), ((1, 0), 2, ["X"]), ((1, 1), 2, ["-X"])])


class RunsTest(unittest.TestCase):
    def test_random_programs(self):
        source = seeded(5)
        many = 0
        for _ in range(250):
            size = source.randint(1, 5)
            more = source.choice([0, 0, 1, 2])
            made = Made(source, size + more, source.randint(0, size + more))
            many += check_runs(self, size, random_text(source, size, source.randint(0, 18)), made.group)
        self.assertGreater(many, 800)

    def test_larger_programs(self):
        source = seeded(6)
        for _ in range(6):
            made = Made(source, 12, source.randint(6, 12))
            check_runs(self, 12, random_text(source, 12, 60, most_bits=7), made.group)

    def test_no_lines(self):
        group = Group(3, strings("-XXI ZZZ"))
        for text in ("", "wait 0"):
            told, = runs(Program(2, text), group)
            self.assertEqual((told.bits, told.halves), ((), 0))
            self.assertEqual(told.group, group)

    def test_all_chances_add_up(self):
        program = Program(3, "measure X0 to a\nmeasure Z0 to b\nflag b\nmeasure X1 to c\nend\nmeasure Z1*Z2 to d")
        told = runs(program, Group(3, []))
        self.assertEqual(sum(Fraction(1, 2 ** run.halves) for run in told), 1)
        self.assertEqual([run.bits for run in told], sorted(run.bits for run in told))
        self.assertEqual({run.halves for run in told}, {3, 4})

    def test_fewer_places(self):
        for size in (2, 3, 24):
            error = refused(self, Unlike, runs, Program(size, "h 0"), Group(1, strings("X")))
            self.assertEqual(error.what, "size")
        self.assertEqual(refused(self, Unlike, runs, Program(2, ""), Group(1, [])).what, "size")

    def test_twenty_four_places_and_sixty_lines(self):
        source = seeded(8)
        made = Made(source, 24, 24, gates=100)
        rows = [f"measure {word(random_letters(source, 24, 6))} to b{k}" for k in range(10)]
        rows += [f"if b{k} + b{(k + 1) % 10} then {word(random_letters(source, 24, 6))}" for k in range(10)]
        rows += ["cx {} {}".format(*source.sample(range(24), 2)) for _ in range(40)]
        began = time.monotonic()
        told = runs(Program(24, "\n".join(rows)), Group(24, made.group))
        self.assertLess(time.monotonic() - began, 30)
        self.assertEqual(sum(Fraction(1, 2 ** run.halves) for run in told), 1)
        wanted = {run.row(tuple(f"b{k}" for k in range(10))): run
                  for run in run_all(24, "\n".join(rows), standing_of(made.group))}
        self.assertEqual([run.bits for run in told], sorted(wanted))
        for run in source.sample(told, 10):
            self.assertTrue(same_standing(wanted[run.bits].standing, run.group))

    def test_the_strings_are_the_same_but_for_signs_without_flags(self):
        source = seeded(9)
        for _ in range(40):
            program = Program(3, random_text(source, 3, 12, flags=False))
            told = runs(program, Group(3, Made(source, 3, 2).group))
            letters = {tuple(row.letters for row in run.group.rows) for run in told}
            self.assertEqual(len(letters), 1)
            self.assertEqual({run.halves for run in told}, {len(told).bit_length() - 1})


class MenderTest(unittest.TestCase):
    def test_menders_are_programs_that_bring_all_back(self):
        source = seeded(10)
        many = 0
        for made, gauge in some_made(11, (2, 3, 4, 5)):
            code = Code(made.size, made.group, gauge)
            for lot in itertools.chain.from_iterable(itertools.combinations(range(made.size), k) for k in (0, 1, 2)):
                text = mender(code, lot)
                if not isinstance(text, str):
                    continue
                many += 1
                program = Program(code.size, text)
                self.assertEqual(program.size, code.size)
                flat = [told for pair in code.hidden for told in pair]
                for told in source.sample(flat, min(2, len(flat))) + [Pauli("I" * code.size)]:
                    group = Group(code.size, [*code.group.rows, *([told] if told.weight else [])])
                    lost = behind(Program(code.size, "\n".join(f"lost {place}" for place in lot)), group)
                    for run in runs(program, lost):
                        for row in group.rows:
                            self.assertEqual(run.group.sign_of(row), 1)
        self.assertGreater(many, 100)


def difference_holds(case, one, other, told):
    """Whether a row of bits parts two programs, by the tests' own runs from the twins."""
    size = one.size
    twins = [string("I" * k + letter + "I" * (size - 1) + letter + "I" * (size - 1 - k))
             for k in range(size) for letter in "XZ"]
    found = []
    for program in (one, other):
        ended = run_all(size, program.text, standing_of(twins))
        found.append({run.row(one.bits): run for run in ended})
    case.assertEqual(sorted(one.bits), sorted(names_of(other.text)))
    first, second = found[0].get(told.bits), found[1].get(told.bits)
    if first is None or second is None:
        return first is not second
    if first.halves != second.halves or len(first.standing.rows) != len(second.standing.rows):
        return True
    return any(second.standing.sign_of(row) != 1 for row in first.standing.rows)


class AlikeTest(unittest.TestCase):
    SAME = [
        (2, "swap 0 1", "cx 0 1\ncx 1 0\ncx 0 1"), (2, "cz 0 1", "h 1\ncx 0 1\nh 1"), (2, "cz 0 1", "cz 1 0"),
        (1, "z 0", "s 0\ns 0"), (1, "x 0", "h 0\nz 0\nh 0"), (1, "y 0", "x 0\nz 0"), (1, "", "wait 0"),
        (1, "", "h 0\nh 0"), (2, "", "swap 0 1\nswap 1 0"), (1, "h 0", "z 0\nx 0\nh 0\nx 0\nz 0"),
        (1, "fresh 0", "lost 0\nfresh 0"), (1, "fresh 0", "fresh 0\nz 0"), (1, "lost 0", "h 0\nlost 0\ns 0"),
        (2, "measure Z0 to a\nmeasure X1 to b", "measure X1 to b\nmeasure Z0 to a"),
        (2, "measure Z0*Z1 to a\nmeasure X0*X1 to b", "measure X0*X1 to b\nmeasure Z0*Z1 to a"),
        (1, "measure Z0 to a", "x 0\nmeasure -Z0 to a\nx 0"), (1, "measure Z0 to a\nif a then X0\n", "measure Z0 to a\nfresh 0"),
        (1, "measure Z0 to a\nflag a\nx 0\nend", "measure Z0 to a\nif a then X0"),
        (1, "table t\nrow 1 X0\nmeasure Z0 to a\nlook t a", "measure Z0 to a\nif a then -X0\nif a + a then Z0"),
        (1, "measure Z0 to a\nmeasure Z0 to b", "measure Z0 to b\nmeasure Z0 to a"),
        (1, "measure Z0 to a\nif a then Z0", "measure Z0 to a"),
        (2, "measure Z0 to a\nflag a\nmeasure Z1 to b\nend",
         "measure Z0 to a\nflag a\nx 1\nmeasure -Z1 to b\nx 1\nend"),
    ]
    UNLIKE = [
        (1, "", "z 0"), (1, "", "x 0"), (1, "s 0", "s 0\nz 0"), (1, "lost 0", "fresh 0"), (1, "wait 0", "lost 0"),
        (1, "measure Z0 to a", "measure -Z0 to a"), (1, "measure Z0 to a", "measure X0 to a"),
        (1, "measure Z0 to a\nmeasure X0 to b", "measure X0 to b\nmeasure Z0 to a"),
        (1, "measure Z0 to a", "measure Z0 to a\nif a then X0"),
        (1, "measure Z0 to a\nmeasure X0 to b", "measure X0 to a\nmeasure Z0 to b"),
        (1, "measure Z0 to a\nmeasure Z0 to b", "fresh 0\nmeasure X0 to a\nh 0\nmeasure X0 to b"),
        (2, "cx 0 1", "cx 1 0"), (2, "measure Z0 to a\nmeasure Z1 to b", "measure Z1 to a\nmeasure Z0 to b"),
        (1, "measure Z0 to a\nflag a\nmeasure X0 to b\nend", "measure Z0 to a\nmeasure X0 to b"),
    ]

    def test_programs_that_are_alike(self):
        for size, one, other in self.SAME:
            self.assertIsNone(alike(Program(size, one), Program(size, other)), (one, other))
            self.assertIsNone(alike(Program(size, other), Program(size, one)), (one, other))

    def test_programs_that_are_not(self):
        for size, one, other in self.UNLIKE:
            for first, second in ((one, other), (other, one)):
                told = alike(Program(size, first), Program(size, second))
                self.assertIs(told.__class__, Difference, (first, second))
                self.assertTrue(difference_holds(self, Program(size, first), Program(size, second), told))

    def test_one_line_more_or_less_or_another_one(self):
        source = seeded(12)
        unlike = same = 0
        for _ in range(150):
            size = source.randint(1, 3)
            text = random_text(source, size, 10, most_bits=3)
            rows = text.splitlines()
            if not rows:
                continue
            at = source.randrange(len(rows))
            put = source.choice([[], [f"{source.choice(['h', 's', 'x', 'z', 'lost', 'fresh', 'wait'])} 0"], [rows[at], "z 0"]])
            changed = [*rows[:at], *put, *rows[at + 1:]]
            try:
                one, other = Program(size, text), Program(size, "\n".join(changed))
            except ValueError:
                continue
            if sorted(one.bits) != sorted(other.bits):
                self.assertEqual(refused(self, Unlike, alike, one, other).what, "bits")
                continue
            told = alike(one, other)
            if told is None:
                same += 1
                for bits in itertools.product((0, 1), repeat=len(one.bits)):
                    self.assertFalse(difference_holds(self, one, other, Difference(bits)))
            else:
                unlike += 1
                self.assertTrue(difference_holds(self, one, other, told))
        self.assertGreater(unlike, 20)
        self.assertGreater(same, 10)

    def test_errors(self):
        one = Program(2, "measure Z0 to a")
        self.assertEqual(refused(self, Unlike, alike, one, Program(3, "measure Z0 to b")).what, "size")
        self.assertEqual(refused(self, Unlike, alike, one, Program(1, "measure Z0 to a")).what, "size")
        for text in ("", "measure Z0 to b", "measure Z0 to a\nmeasure Z1 to b"):
            self.assertEqual(refused(self, Unlike, alike, one, Program(2, text)).what, "bits")
            self.assertEqual(refused(self, Unlike, alike, Program(2, text), one).what, "bits")

    def test_ten_bits(self):
        rows = [f"measure {letter}{place} to {letter.lower()}{place}" for place in range(5) for letter in "XZ"]
        one = Program(5, "\n".join(rows))
        other = Program(5, "\n".join(rows[2:] + rows[:2]))
        self.assertIsNone(alike(one, other))
        rows[0], rows[1] = rows[1], rows[0]
        self.assertIsNotNone(alike(one, Program(5, "\n".join(rows))))


if __name__ == "__main__":
    unittest.main()
