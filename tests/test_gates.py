"""[97] to [101]: programs of gates."""

import itertools
import unittest

from plain import (Made, all_letters, all_strings, group_list, letters_commute, product, refused, seeded, single,
                   some_made, span_list, string, strings)
from runner import IMAGES, gated
from standings import held
from keptqubits.codes import Code
from keptqubits.errors import BadNumber, TooMany, Unlike
from keptqubits.gates import (Action, Closed, Layers, Spread, action, closed_actions, image_of, layers, spread)
from keptqubits.paulis import Pauli
from keptqubits.programs import Program

TURNS = ("", "h", "s", "hs", "sh", "shs")
NO_GATES = ("fresh 0", "lost 0", "measure X0 to a", "measure X0 to a\nif a then X0", "measure X0 to a\nflag a\nend",
            "table t\nrow 0 I", "table t\nrow 0 I\nh 0", "table t\nrow 0 I\nmeasure X0 to a\nlook t a", "h 0\nh 0\nlost 0",
            "table t\nrow 1 X0\nwait 0")


def pauli_of(size, one):
    """A held string as a Pauli."""
    x, z, power = one
    letters = "".join({(0, 0): "I", (1, 0): "X", (1, 1): "Y", (0, 1): "Z"}[(x >> k) & 1, (z >> k) & 1]
                      for k in range(size))
    return string(letters, power - letters.count("Y"))


def done(rows, told):
    """What lines of gates make of a string."""
    one = held(told)
    for row in rows:
        kind, *places = row.split(" ")
        if kind != "wait":
            one = gated(kind, [int(place) for place in places], one)
    return pauli_of(told.size, one)


def random_gates(source, size, many):
    rows = []
    for _ in range(many):
        gate = source.choice([*IMAGES, "cx", "cz", "wait"])
        if gate in ("cx", "cz", "swap"):
            if size > 1:
                rows.append("{} {} {}".format(gate, *source.sample(range(size), 2)))
        else:
            rows.append(f"{gate} {source.randrange(size)}")
    return rows


class ImageTest(unittest.TestCase):
    def test_each_gate_and_letter_with_each_phase(self):
        for gate, images in IMAGES.items():
            size = len(next(iter(images)))
            for places in itertools.permutations(range(size)):
                row = " ".join([gate, *map(str, places)])
                program = Program(size, row)
                for told in all_strings(size):
                    image = image_of(program, told)
                    self.assertEqual(image, done([row], told), row)
                    for other in all_strings(size)[::3]:
                        self.assertEqual(image_of(program, told.times(other)), image.times(image_of(program, other)))

    def test_single_gates_by_hand(self):
        for row, told, image in (("h 0", "Y", "-Y"), ("s 0", "Y", "-X"), ("s 0", "iX", "iY"), ("x 0", "-iZ", "iZ"),
                                 ("y 0", "X", "-X"), ("z 0", "iY", "-iY"), ("cx 0 1", "XZ", "-YY"), ("cz 0 1", "XX", "YY"),
                                 ("cx 1 0", "ZX", "-YY"), ("swap 0 1", "-XZ", "-ZX"), ("wait 0", "iX", "iX"),
                                 ("", "-iXYZ", "-iXYZ"), ("cx 0 1", "-iYI", "-iYX"), ("cx 0 1", "YY", "-XZ")):
            told = Pauli(told)
            self.assertEqual(image_of(Program(told.size, row), told), Pauli(image), row)

    def test_random_programs(self):
        source = seeded(81)
        for _ in range(150):
            size = source.randint(1, 6)
            rows = random_gates(source, size, source.randint(0, 20))
            told = string(source.choice(all_letters(size)), source.randrange(4))
            self.assertEqual(image_of(Program(size, "\n".join(rows)), told), done(rows, told))

    def test_twenty_four_places(self):
        source = seeded(82)
        rows = random_gates(source, 24, 60)
        told = string("XYZI" * 6, 3)
        self.assertEqual(image_of(Program(24, "\n".join(rows)), told), done(rows, told))

    def test_errors(self):
        for text in NO_GATES:
            for size in (1, 2, 3):
                told = Program(size, text)
                what = "gates" if size == 2 else "size"
                self.assertEqual(refused(self, Unlike, image_of, told, Pauli("XX")).what, what)
                self.assertEqual(refused(self, Unlike, action, Code(2, strings("ZZ")), told).what, what)
                self.assertEqual(refused(self, Unlike, closed_actions, Code(2, strings("ZZ")), [told]).what, what)
                for code in (Code(2, []), Code(2, [], strings("XI ZI")), Code(2, strings("XX ZZ"))):
                    self.assertEqual(refused(self, Unlike, action, code, told).what, what)
                    self.assertEqual(refused(self, Unlike, closed_actions, code, [told]).what, what)
            self.assertEqual(refused(self, Unlike, spread, Program(2, text)).what, "gates")
        self.assertEqual(refused(self, Unlike, image_of, Program(3, ""), Pauli("iXX")).what, "size")


def standard_product(code, row):
    """The standard product of a row of hidden bits."""
    total = Pauli("I" * code.size)
    for index, (one, other) in enumerate(code.hidden):
        bits = row[2 * index:2 * index + 2]
        if bits == (1, 1):
            total = total.times(string("I" * code.size, 1))
        total = product(code.size, [total, *[told for told, bit in zip((one, other), bits) if bit]])
    return total


def reckoned(code, rows):
    """The matrix and the signs of lines of gates, None if they do not keep the code."""
    of_group = group_list(code.size, code.group.rows)
    of_gauge = span_list(code.size, [*code.group.rows, *code.gauge])
    for letters, sign in of_group.items():
        image = done(rows, string(letters, 1 - sign))
        if of_group.get(image.letters) != 1 - image.phase:
            return None
    if any(done(rows, told).letters not in of_gauge for told in code.gauge):
        return None
    matrix, signs = [], []
    for pair in code.hidden:
        for told in pair:
            image = done(rows, told)
            row = []
            for one, other in code.hidden:
                row += [int(not letters_commute(image.letters, other.letters)),
                        int(not letters_commute(image.letters, one.letters))]
            matrix.append(tuple(row))
            standard = standard_product(code, matrix[-1])
            signs.append([sign for sign in (0, 1) for letters, of in of_group.items()
                          if standard.times(string(letters, 1 - of + 2 * sign)) == image])
    return tuple(matrix), tuple(one for one, in signs)


def plain(told):
    return None if told is None else (told.matrix, told.signs)


def some_codes(seed, sizes, most=3):
    for made, gauge in some_made(seed, sizes):
        if made.kept <= most:
            yield Code(made.size, made.group, gauge, made.pairs)
            yield Code(made.size, made.group, gauge)


def keeping(source, code, tries=40):
    """Lines of gates, some of which keep the code: random ones, ahead of others that take them back, and layers."""
    size = code.size
    for _ in range(tries):
        kind = source.choice(("random", "letters", "both", "layer"))
        if kind == "random":
            yield random_gates(source, size, source.randint(0, 3))
        elif kind == "letters":
            yield [f"{source.choice('xyz')} {source.randrange(size)}" for _ in range(source.randint(1, 3))]
        elif kind == "layer":
            turn = source.choice(TURNS)
            yield [f"{gate} {place}" for place in range(size) for gate in turn]
        else:
            rows = random_gates(source, size, 3)
            back = [row for row in reversed(rows) for _ in range(3 if row.startswith("s ") else 1)]
            pauli = [f"{source.choice('xyz')} {source.randrange(size)}"]
            yield [*rows, *pauli, *back]


class ActionTest(unittest.TestCase):
    def test_random_programs(self):
        source = seeded(83)
        found = []
        for code in some_codes(84, (1, 2, 3, 4)):
            for rows in keeping(source, code, 12):
                wanted = reckoned(code, rows)
                told = action(code, Program(code.size, "\n".join(rows)))
                self.assertEqual(plain(told), wanted, rows)
                if told is not None:
                    self.assertIs(told.__class__, Action)
                    found.append(told.signs)
        self.assertGreater(len(found), 100)
        self.assertGreater(len([signs for signs in found if 1 in signs]), 30)

    def test_signs_and_gauge(self):
        code = Code(2, strings("-ZZ"))
        self.assertIsNone(action(code, Program(2, "x 0")))
        self.assertIsNotNone(action(code, Program(2, "x 0\nx 1")))
        gauged = Code(2, [], strings("XI ZI"))
        self.assertIsNone(action(gauged, Program(2, "cx 0 1")))
        self.assertIsNotNone(action(gauged, Program(2, "h 0\ny 0")))
        self.assertIsNone(action(gauged, Program(2, "swap 0 1")))
        told = action(Code(1, [], (), [(Pauli("X"), Pauli("Z"))]), Program(1, "s 0"))
        self.assertEqual((told.matrix, told.signs), (((1, 1), (0, 1)), (0, 0)))
        told = action(Code(1, [], (), [(Pauli("-X"), Pauli("Z"))]), Program(1, "s 0\nz 0"))
        self.assertEqual((told.matrix, told.signs), (((1, 1), (0, 1)), (1, 0)))

    def test_nothing_kept(self):
        told = action(Code(2, strings("XX ZZ")), Program(2, "h 0\nh 1"))
        self.assertEqual((told.matrix, told.signs), ((), ()))
        self.assertIsNone(action(Code(2, strings("XX ZZ")), Program(2, "x 0")))


class ClosedTest(unittest.TestCase):
    def searched(self, code, programs):
        """All actions by a search over words, each with its first word."""
        found = {reckoned(code, []): ()}
        latest = [()]
        while latest:
            following = []
            for ahead in latest:
                for index in range(len(programs)):
                    told = (*ahead, index)
                    acts = reckoned(code, [row for k in told for row in programs[k]])
                    if acts not in found:
                        found[acts] = told
                        following.append(told)
            latest = following
        return list(found.values())

    def test_random_programs(self):
        source = seeded(85)
        orders = set()
        for code in some_codes(86, (1, 2, 3), 2):
            kept = [rows for rows in keeping(source, code, 12) if reckoned(code, rows) is not None][:2]
            programs = kept + [kept[0]] if kept and source.random() < 0.3 else kept
            told = closed_actions(code, source.choice([list, tuple])([Program(code.size, "\n".join(rows)) for rows in programs]))
            self.assertIs(told.__class__, Closed)
            if told.order > 60:
                continue
            wanted = self.searched(code, programs)
            self.assertEqual((told.order, list(told.words)), (len(wanted), wanted))
            orders.add(told.order)
        self.assertGreater(len(orders), 3)

    def test_all_of_one_and_two_bits(self):
        one = Code(1, [])
        programs = [Program(1, "h 0"), Program(1, "s 0")]
        told = closed_actions(one, programs)
        self.assertEqual((told.order, list(told.words)), (24, self.searched(one, [["h 0"], ["s 0"]])))
        two = Code(2, [])
        pauli = [Program(2, row) for row in ("x 0", "z 0", "x 1", "z 1")]
        self.assertEqual(closed_actions(two, pauli).order, 16)
        local = [Program(2, row) for row in ("h 0", "s 0", "h 1", "s 1")]
        self.assertEqual(closed_actions(two, local).order, 576)
        self.assertEqual(closed_actions(two, [Program(2, row) for row in ("h 0", "h 1", "cx 0 1", "x 0", "z 0")]).order, 1152)

    def test_none_and_twice(self):
        for code in (Code(2, strings("XX ZZ")), Code(2, strings("ZZ")), Code(3, strings("ZZI"))):
            told = closed_actions(code, [])
            self.assertEqual((told.order, told.words), (1, ((),)))
        program = Program(2, "x 0\nx 1")
        told = closed_actions(Code(2, strings("ZZ")), [program, program])
        self.assertEqual(told.order, len(told.words))
        self.assertTrue(all(1 not in row for row in told.words))

    def test_errors(self):
        code = Code(2, strings("ZZ"))
        three = Code(3, [])
        for programs in ([], [Program(1, "lost 0")]):
            error = refused(self, TooMany, closed_actions, three, programs)
            self.assertEqual((error.what, error.many, error.limit), ("kept", 3, 2))
        breaks, keeps = Program(2, "h 0"), Program(2, "z 0")
        self.assertEqual(refused(self, Unlike, closed_actions, code, [breaks, Program(2, "lost 0"), Program(3, "")]).what, "gates")
        self.assertEqual(refused(self, Unlike, closed_actions, code, [breaks, Program(3, ""), Program(2, "lost 0")]).what, "size")
        error = refused(self, BadNumber, closed_actions, code, [keeps, breaks, breaks])
        self.assertEqual((error.what, error.number), ("program", 1))
        error = refused(self, BadNumber, closed_actions, code, [breaks])
        self.assertEqual((error.what, error.number), ("program", 0))


class LayersTest(unittest.TestCase):
    MAPS = {"": "XYZ", "h": "ZYX", "s": "YXZ", "hs": "ZXY", "sh": "YZX", "shs": "XZY"}

    def turned(self, letters, layer):
        return "".join(letter if letter == "I" else self.MAPS[turn]["XYZ".index(letter)]
                       for letter, turn in zip(letters, layer))

    def test_turns_are_gates(self):
        for turn, letters in self.MAPS.items():
            for letter, image in zip("XYZ", letters):
                self.assertEqual(done([f"{gate} 0" for gate in turn], Pauli(letter)).letters, image)

    def check(self, code):
        of_group = span_list(code.size, code.group.rows)
        of_gauge = span_list(code.size, [*code.group.rows, *code.gauge])
        number, firsts = 0, {}
        for layer in itertools.product(TURNS, repeat=code.size):
            if all(self.turned(row.letters, layer) in of_group for row in code.group.rows) and \
                    all(self.turned(row.letters, layer) in of_gauge for row in code.gauge):
                number += 1
                matrix = []
                for told in [told for pair in code.hidden for told in pair]:
                    image = self.turned(told.letters, layer)
                    matrix.append(tuple(int(not letters_commute(image, other.letters))
                                        for pair in code.hidden for other in reversed(pair)))
                firsts.setdefault(tuple(matrix), layer)
        told = layers(code)
        self.assertIs(told.__class__, Layers)
        self.assertEqual(told.number, number)
        self.assertEqual(list(told.matrices), sorted(firsts))
        self.assertEqual(list(told.words), [firsts[matrix] for matrix in sorted(firsts)])
        return number

    def test_small_codes(self):
        numbers = {self.check(code) for code in some_codes(87, (1, 2, 3))}
        self.assertGreater(len(numbers), 5)

    def test_four_to_six_places(self):
        self.assertEqual(self.check(Code(4, strings("XXXX ZZZZ"))), 6)
        self.assertEqual(self.check(Code(5, strings("XZZXI IXZZX XIXZZ ZXIXZ"))), 3)
        self.check(Code(4, strings("XXXX ZZZZ"), strings("XXII ZIZI")))
        self.check(Code(4, strings("ZZII"), strings("IIXI IIZI")))
        told = layers(Code(6, strings("XXXXXX ZZZZZZ")))
        self.assertEqual((told.number, len(told.matrices)), (6, 6))
        self.assertEqual(layers(Code(6, [])).number, 6 ** 6)

    def test_too_many_places(self):
        for size in (7, 8, 24):
            error = refused(self, TooMany, layers, Code(size, []))
            self.assertEqual((error.what, error.many, error.limit), ("size", size, 6))


class SpreadTest(unittest.TestCase):
    def check(self, size, rows):
        best = None
        for line in range(len(rows) + 1):
            for letters in sorted(single(size, place, letter).letters for place in range(size) for letter in "XYZ"):
                weight = done(rows[line:], Pauli(letters)).weight
                if best is None or weight > best[0]:
                    best = (weight, line, letters)
        told = spread(Program(size, "\n".join(rows)))
        self.assertIs(told.__class__, Spread)
        self.assertEqual((told.number, told.line, told.string.letters), best)
        self.assertEqual(told.string.phase, 0)
        return best

    def test_random_programs(self):
        source = seeded(88)
        lines = set()
        for _ in range(120):
            size = source.randint(1, 6)
            number, line, _ = self.check(size, random_gates(source, size, source.randint(0, 12)))
            lines.add((number, line))
        self.assertGreater(len(lines), 5)

    def test_edges(self):
        for size in (1, 2, 24):
            self.assertEqual(self.check(size, []), (1, 0, "I" * (size - 1) + "X"))
        self.assertEqual(self.check(2, ["wait 0", "cx 0 1", "cx 0 1"]), (2, 2, "IY"))
        self.check(24, [f"cx {k} {k + 1}" for k in range(23)] + ["swap 0 1"] * 37)


if __name__ == "__main__":
    unittest.main()
