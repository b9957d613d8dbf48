"""[80] to [89]: rounds for ever."""

import itertools
import unittest

from plain import refused, seeded, string
from roundtexts import (SMALL_CODES, RoundText, class_left, class_of, code_of, fault_rows, is_mended, is_round,
                        measured_by_helper, runs_with, start_of)
from runner import all_faults, run_all, standing_of, word
from keptqubits.codes import Code
from keptqubits.errors import BadGauge, BadNumber, HasFlag, NotARound, Unlike
from keptqubits.faults import Fault
from keptqubits.paulis import Pauli
from keptqubits.programs import Program
from keptqubits.rounds import (Forever, ForeverPairs, History, TwoHistories, any_order, forever, forever_pairs,
                               greatest_t, two_neighbors, unseen)
from keptqubits.tables import lightest

FLIPS = code_of("ZZI IZZ")
BOTH = "measure Z0*Z1 to a\nmeasure Z1*Z2 to b\n"
MENDED = ("table t\nrow 10 X0\nrow 11 X1\nrow 01 X2\n" + BOTH + "look t a b\n")
NO_NUMBERS = (-1, 4, 5, True, False, None, "1", 1.0, (1,), [1], 10 ** 30)
RUINED = (None, None)


def none_of(code):
    return (0,) * code.group.rank, (0,) * (2 * code.kept)


class Rounds:
    """What rounds of a code lead each class to, by a look at all rows of faults."""

    def __init__(self, code, size, text):
        self.code, self.size, self.text = code, size, text
        self.known = {}
        self.members = {}
        for letters in itertools.product("IXYZ", repeat=code.size):
            self.members.setdefault(class_of(code, Pauli("".join(letters))), Pauli("".join(letters)))

    def led(self, pair, many):
        """The set of (bits, class left, rows of faults) with just so many faults, all of which happen."""
        if (pair, many) not in self.known:
            found = {}
            for rows in fault_rows(self.size, self.text, many):
                if len(rows) == many:
                    for bits, left, happened in runs_with(self.code, self.size, self.text, rows, self.members[pair]):
                        if len(happened) == many:
                            found.setdefault((bits, left), rows)
            self.known[pair, many] = found
        return self.known[pair, many]

    def within(self, pair, t):
        """The pairs (bits, class left) with at most t faults."""
        return {key for many in range(t + 1) for key in self.led(pair, many)}


def histories(rounds, table, caps):
    """The classes that histories leave, or the fewest rounds behind which one is left that is not mended.

    A history is held by the class left and how many faults its last round had; caps tells from that and the index
    of a program how many faults the next round may have.
    """
    code = rounds[0].code
    latest = {(none_of(code), 0)}
    met, seen = set(), set()
    number = 0
    while latest:
        number += 1
        following = set()
        for pair, used in latest:
            for told in rounds:
                for many in range(caps(used) + 1):
                    following |= {(left, many) for _, left in told.led(pair, many)}
        if any(not is_mended(code, table, left) for left, _ in following):
            return number
        met |= {left for left, _ in following}
        latest = following - seen
        seen |= following
    return sorted(met)


def plain_rows(faults):
    return [(fault.line, fault.string.letters, fault.flip) for fault in faults]


def follow(case, rounds, index_and_faults, bits):
    """The class that a told history leaves; each of its faults must happen, and its bits must come."""
    code = rounds[0].code
    now = none_of(code)
    case.assertEqual(len(index_and_faults), len(bits))
    for (index, faults), row in zip(index_and_faults, bits):
        told = rounds[index]
        rows = plain_rows(faults)
        case.assertIs(faults.__class__, tuple)
        case.assertEqual(rows, sorted(rows))
        case.assertTrue(all(fault.__class__ is Fault for fault in faults))
        case.assertEqual(len({line for line, _, _ in rows}), len(rows))
        ends = [left for seen, left, happened in runs_with(code, told.size, told.text, rows, told.members[now])
                if seen == row and len(happened) == len(rows)]
        case.assertEqual(len(ends), 1)
        now = ends[0]
    return now


def random_rounds(seed, many, pieces=4, flags=True, most=40):
    source = seeded(seed)
    found = 0
    while found < many:
        code = code_of(source.choice(SMALL_CODES[:6] + SMALL_CODES[7:]))
        size = code.size + source.choice([0, 0, 1])
        text = RoundText(source, code, size, source.randint(0, pieces), 2, flags=flags, circuits=False).text
        if is_round(code, size, text) and len(all_faults(size, text)) <= most:
            found += 1
            yield source, code, size, text


def some_table(source, code):
    found = dict(lightest(code))
    if source.random() < 0.3:
        for syndrome in list(found):
            if source.random() < 0.3:
                del found[syndrome]
            elif source.random() < 0.2:
                found[syndrome] = string("".join(source.choice("IXYZ") for _ in range(code.size)), 2)
    return found


class ForeverTest(unittest.TestCase):
    def check(self, told, wanted, rounds, table, caps, indexed=False):
        if isinstance(wanted, list):
            self.assertIs(told.__class__, Forever)
            self.assertEqual(list(told.classes), wanted)
            self.assertIs(told.classes.__class__, tuple)
            return True
        self.assertIs(told.__class__, History)
        self.assertEqual((len(told.rounds), len(told.bits)), (wanted, wanted))
        pairs = list(told.rounds) if indexed else [(0, faults) for faults in told.rounds]
        left = follow(self, rounds, pairs, told.bits)
        self.assertFalse(is_mended(rounds[0].code, table, left))
        used = 0
        for _, faults in pairs:
            self.assertLessEqual(len(faults), caps(used))
            used = len(faults)
        return False

    def test_random_rounds(self):
        held, ruined, lengths = [], 0, set()
        for source, code, size, text in random_rounds(61, 110):
            table = some_table(source, code)
            rounds = [Rounds(code, size, text)]
            program = Program(size, text)
            kept = []
            for t in range(3 if len(all_faults(size, text)) < 15 else 2):
                wanted = histories(rounds, table, lambda used: t)
                told = forever(code, program, table, t)
                kept.append(self.check(told, wanted, rounds, table, lambda used: t))
                lengths.add(wanted if isinstance(wanted, int) else 0)
                wanted = histories(rounds, table, lambda used: t - used)
                self.check(two_neighbors(code, program, table, t), wanted, rounds, table, lambda used: t - used)
                if not kept[-1]:
                    ruined += follow(self, rounds, [(0, faults) for faults in told.rounds], told.bits) == RUINED
            for most in range(len(kept)):
                told = kept[:most + 1].count(True)
                self.assertEqual(greatest_t(code, program, table, most), told - 1 if told else None)
            held += kept
        self.assertGreater(min(held.count(True), held.count(False)), 30)
        self.assertGreater(ruined, 0)
        self.assertLessEqual({0, 1, 2}, lengths)

    def test_any_order(self):
        source = seeded(62)
        held = []
        for _, code, size, text in random_rounds(63, 40, 2):
            texts = [text]
            while len(texts) < source.randint(2, 3):
                other = RoundText(source, code, size, 2, 2, circuits=False).text
                if is_round(code, size, other) and len(all_faults(size, other)) < 40:
                    texts.append(other)
            table = some_table(source, code)
            rounds = [Rounds(code, size, told) for told in texts]
            programs = [Program(size, told) for told in texts]
            for t in range(2):
                wanted = histories(rounds, table, lambda used: t)
                told = any_order(code, source.choice([list, tuple])(programs), table, t)
                held.append(self.check(told, wanted, rounds, table, lambda used: t, True))
        self.assertGreater(min(held.count(True), held.count(False)), 8)

    def test_programs_of_other_sizes_and_one_alone(self):
        table = lightest(FLIPS)
        programs = [Program(3, "x 0\nx 0"), Program(5, "x 0\nfresh 4"), Program(4, "x 1")]
        told = any_order(FLIPS, programs, table, 0)
        self.assertIs(told.__class__, History)
        self.assertEqual((len(told.rounds), {index for index, _ in told.rounds}), (2, {1, 2}))
        self.assertEqual(told.bits, ((), ()))
        one = any_order(FLIPS, [programs[0]], table, 0)
        self.assertEqual(one.classes, forever(FLIPS, programs[0], table, 0).classes)
        told = any_order(FLIPS, [programs[1]], table, 1)
        self.assertEqual({index for index, _ in told.rounds}, {0})

    def test_mending_rounds_hold_for_ever(self):
        code = code_of("ZZIII IZZII IIZZI IIIZZ")
        program = Program(5, "wait 0\n")
        table = lightest(code)
        # without mending in the round letters come one by one; Z loses at once
        self.assertEqual(len(forever(code, program, table, 1).rounds), 1)
        self.assertEqual(len(forever(code, program, table, 0).classes), 1)
        five = code_of("XZZXI IXZZX XIXZZ ZXIXZ")
        rows = "".join(f"row {k:04b} {word}\n" for k, word in sorted(self.mendings(five).items()))
        measures = ("measure X0*Z1*Z2*X3 to a\nmeasure X1*Z2*Z3*X4 to b\nmeasure X0*X2*Z3*Z4 to c\n"
                    "measure Z0*X1*X3*Z4 to d\n")
        text = "table t\n" + rows + measures + "look t a b c d\n"
        self.assertEqual(forever(five, Program(5, text), lightest(five), 0).classes, (none_of(five),))
        told = forever(five, Program(5, text), lightest(five), 1)
        self.assertIs(told.__class__, History)
        waits = Program(5, "table t\n" + rows + "wait 3\n" + measures + "look t a b c d\n")
        self.assertIs(forever(five, waits, lightest(five), 1).__class__, History)

    @staticmethod
    def mendings(code):
        """By the syndromes of the four strings as they are measured, the words of the lightest strings."""
        told = [Pauli(text) for text in ("XZZXI", "IXZZX", "XIXZZ", "ZXIXZ")]
        found = {0: "I"}
        for place, letter in itertools.product(range(5), "XYZ"):
            error = Pauli("I" * place + letter + "I" * (4 - place))
            key = int("".join(str(int(not error.commutes(row))) for row in told), 2)
            found[key] = f"{letter}{place}"
        return found

    def test_neighbors_allow_more(self):
        # a fault a round is too much, a fault in every other round is not: the round forgets half of it
        code = code_of("ZIII IZII IIZI IIIZ")
        program = Program(4, "fresh 3\nswap 2 3\nfresh 2\ncx 1 2\ncx 1 2\nfresh 0\nwait 0\n")
        table = {syndrome: told for syndrome, told in lightest(code).items() if sum(syndrome) < 3}
        rounds = [Rounds(code, 4, program.text)]
        for t in range(2):
            wanted = histories(rounds, table, lambda used: t - used)
            self.check(two_neighbors(code, program, table, t), wanted, rounds, table, lambda used: t - used)
            wanted = histories(rounds, table, lambda used: t)
            self.check(forever(code, program, table, t), wanted, rounds, table, lambda used: t)

    def test_three_faults(self):
        code = code_of("Z")
        for t in range(4):
            told = forever(code, Program(1, "wait 0\nwait 0\nwait 0"), lightest(code), t)
            self.assertEqual(told.classes, (((0,), ()), ((1,), ())) if t else (((0,), ()),))
            told = two_neighbors(code, Program(1, "wait 0\nwait 0\nwait 0"), {}, t)
            self.assertIs(told.__class__, History if t else Forever)
        self.assertEqual(greatest_t(code, Program(1, "wait 0\nwait 0\nwait 0"), lightest(code), 3), 3)
        self.assertEqual(greatest_t(code, Program(1, "wait 0\nwait 0\nwait 0"), {}, 3), 0)
        self.assertIsNone(greatest_t(code, Program(1, "x 0"), {}, 3))


def z_text(source, size, many, flags=True):
    """The text of a round of the code that keeps nothing and has Z at each place: gates that leave letters Z."""
    rows, bits, in_flag = [], [], False
    for _ in range(many):
        kind = source.choice("cx cx swap fresh x wait measure measure if flag".split())
        if kind in ("cx", "swap"):
            rows.append("{} {} {}".format(kind, *source.sample(range(size), 2)))
        elif kind in ("fresh", "x", "wait"):
            rows.append(f"{kind} {source.randrange(size)}")
        elif kind == "measure" and len(bits) < 2:
            bits.append(f"b{len(bits)}")
            letters = "".join(source.choice("IZ") for _ in range(size))
            rows.append(f"measure {word(letters if 'Z' in letters else 'Z' * size)} to {bits[-1]}")
        elif kind == "if" and bits:
            rows.append(f"if {source.choice(bits)} then {source.choice(['X0', 'X1', 'X0*X1'])}")
        elif kind == "flag" and flags and bits:
            rows.append("end" if in_flag else f"flag {source.choice(bits)}")
            in_flag = not in_flag
    return "".join(row + "\n" for row in rows + ["end"] * in_flag)


def z_rounds(seed, many, flags=True, most=40):
    source = seeded(seed)
    found = 0
    while found < many:
        size = source.choice((2, 2, 3))
        code = code_of(" ".join("I" * k + "Z" + "I" * (size - k - 1) for k in range(size)))
        text = z_text(source, size, source.randint(1, 6), flags)
        if is_round(code, size, text) and len(all_faults(size, text)) <= most:
            found += 1
            yield source, code, size, text


class PlainRoundsTest(ForeverTest):
    """Codes that keep nothing: what is left adds up over many rounds."""

    def test_random_rounds(self):
        lengths = {}
        for source, code, size, text in z_rounds(68, 150):
            rounds, program = [Rounds(code, size, text)], Program(size, text)
            table = {syndrome: told for syndrome, told in lightest(code).items() if source.random() < 0.85}
            for t in range(3 if len(all_faults(size, text)) < 20 else 2):
                for call, caps in ((forever, lambda used: t), (two_neighbors, lambda used: t - used)):
                    wanted = histories(rounds, table, caps)
                    self.check(call(code, program, table, t), wanted, rounds, table, caps)
                    many = wanted if isinstance(wanted, int) else 0
                    lengths[many] = lengths.get(many, 0) + 1
        for many in (0, 1, 2, 3):
            self.assertGreater(lengths.get(many, 0), 2, lengths)

    def test_any_order(self):
        for source, code, size, text in z_rounds(69, 40):
            other = z_text(source, size, 3)
            if not is_round(code, size, other) or len(all_faults(size, other)) > 40:
                continue
            table = {syndrome: told for syndrome, told in lightest(code).items() if source.random() < 0.85}
            rounds = [Rounds(code, size, told) for told in (text, other)]
            for t in range(2):
                wanted = histories(rounds, table, lambda used: t)
                told = any_order(code, [Program(size, text), Program(size, other)], table, t)
                self.check(told, wanted, rounds, table, lambda used: t, True)

    def test_faults_in_every_other_round(self):
        code = code_of("ZI IZ")
        table = lightest(code)
        del table[(1, 1)]
        rounds = [Rounds(code, 2, "wait 0\nwait 1\n")]
        for call, many in ((forever, 2), (two_neighbors, 3)):
            told = call(code, Program(2, rounds[0].text), table, 1)
            self.assertEqual(len(told.rounds), many)
        self.assertEqual([len(faults) for faults in told.rounds], [1, 0, 1])


class ErrorsTest(unittest.TestCase):
    def test_shared_errors(self):
        gauged = Code(2, [], [Pauli("XI"), Pauli("ZI")])
        for call in (lambda code, program: forever(code, program, {}, 4),
                     lambda code, program: two_neighbors(code, program, {}, -1),
                     lambda code, program: any_order(code, [Program(9, "measure X3 to a\nflag a\nend"), program], {}, None),
                     lambda code, program: greatest_t(code, program, {}, 4),
                     lambda code, program: forever_pairs(code, program, True), unseen):
            for program in (Program(1, "lost 0"), Program(3, "lost 0"), Program(3, "")):
                self.assertEqual(refused(self, BadGauge, call, gauged, program).index, 0)
            for program in (Program(2, "lost 0"), Program(1, "")):
                self.assertEqual(refused(self, Unlike, call, FLIPS, program).what, "size")
            refused(self, NotARound, call, FLIPS, Program(3, "lost 0"))
            refused(self, NotARound, call, FLIPS, Program(4, "measure X0*Z3 to a\nflag a\nend"))

    def test_numbers(self):
        program = Program(3, BOTH)
        for number in NO_NUMBERS:
            for call, what in ((lambda: forever(FLIPS, program, {}, number), "t"),
                               (lambda: two_neighbors(FLIPS, program, {}, number), "t"),
                               (lambda: any_order(FLIPS, [program], {}, number), "t"),
                               (lambda: greatest_t(FLIPS, program, {}, number), "most"),
                               (lambda: forever_pairs(FLIPS, program, number), "t")):
                error = refused(self, BadNumber, call)
                self.assertEqual((error.what, error.number is number), (what, True))

    def test_any_order_has_its_own(self):
        gauged = Code(2, [], [Pauli("XI"), Pauli("ZI")])
        for none in ([], ()):
            self.assertEqual(refused(self, BadGauge, any_order, gauged, none, {}, 9).index, 0)
            error = refused(self, BadNumber, any_order, FLIPS, none, {}, 9)
            self.assertEqual((error.what, error.number), ("programs", 0))
        small, wrong, good = Program(2, ""), Program(3, "lost 1"), Program(3, "")
        self.assertEqual(refused(self, Unlike, any_order, FLIPS, [wrong, good, small], {}, 9).what, "size")
        refused(self, NotARound, any_order, FLIPS, [good, wrong], {}, 9)

    def test_pairs_have_no_flags(self):
        flagged = Program(3, BOTH + "flag a\nend")
        refused(self, HasFlag, forever_pairs, FLIPS, flagged, 9)
        refused(self, HasFlag, forever_pairs, FLIPS, flagged, 0)
        refused(self, NotARound, forever_pairs, FLIPS, Program(3, BOTH + "flag a\nend\nlost 0"), 0)


def added(one, other):
    return tuple(tuple(a ^ b for a, b in zip(first, second)) for first, second in zip(one, other))


class PairsTest(unittest.TestCase):
    def reckoned(self, rounds, t):
        """The differences of all pairs of histories with the same bits, or the fewest rounds of two that part."""
        latest = {(none_of(rounds.code), none_of(rounds.code))}
        seen, differences = set(latest), set()
        number = 0
        while latest:
            number += 1
            following = set()
            for one, other in latest:
                ends, others = rounds.within(one, t), rounds.within(other, t)
                for bits, left in ends:
                    following |= {(left, second) for row, second in others if row == bits}
            differences |= {added(one, other) for one, other in following}
            if any(one[0] == other[0] and one[1] != other[1] for one, other in following):
                return number
            latest = following - seen
            seen |= following
        return sorted(differences)

    def check(self, code, size, text, t):
        rounds = Rounds(code, size, text)
        wanted = self.reckoned(rounds, t)
        told = forever_pairs(code, Program(size, text), t)
        if isinstance(wanted, list):
            self.assertIs(told.__class__, ForeverPairs)
            self.assertEqual(list(told.differences), wanted, (text, t))
            return True
        self.assertIs(told.__class__, TwoHistories)
        self.assertEqual((len(told.one), len(told.other), len(told.bits)), (wanted,) * 3)
        ends = []
        for faults in (told.one, told.other):
            self.assertTrue(all(len(row) <= t for row in faults))
            ends.append(follow(self, [rounds], [(0, row) for row in faults], told.bits))
        self.assertEqual(ends[0][0], ends[1][0])
        self.assertNotEqual(ends[0][1], ends[1][1])
        return False

    def test_random_rounds(self):
        held, lengths = [], []
        for _, code, size, text in random_rounds(64, 110, 4, flags=False, most=31):
            for t in range(2):
                held.append(self.check(code, size, text, t))
        self.assertGreater(min(held.count(True), held.count(False)), 20, lengths)

    def test_strings_that_are_measured_again(self):
        # one bit may be flipped, or tell a letter that came; more bits for one string tell these apart
        found = []
        for words in ("ZZ", "-YX", "Z", "ZX XZ"):
            code = code_of(words)
            row = word(code.group.rows[0].letters, "-" if code.group.rows[0].phase else "")
            helped = "\n".join(measured_by_helper(code.group.rows[0], code.size, "d"))
            for ahead in ("", "wait 0\n", "measure X%d to z\nif z then X0\n" % code.size):
                for behind in (f"measure {row} to a\n", f"measure {row} to a\nmeasure {row} to b\n",
                               f"measure {row} to a\nwait 0\nmeasure {row} to b\nmeasure {row} to c\n", helped,
                               f"measure {row} to a\n{helped}"):
                    if len(all_faults(code.size + 1, ahead + behind)) < 140:
                        found += [self.check(code, code.size + 1, ahead + behind, t) for t in (0, 1)]
        self.assertGreater(min(found.count(True), found.count(False)), 10)

    def test_coins_and_helpers(self):
        source = seeded(67)
        found = 0
        while found < 40:
            code = code_of(source.choice(("ZZ", "Z", "-YX", "ZX XZ", "XX")))
            size = code.size + 1
            text = RoundText(source, code, size, source.randint(2, 9), 4, flags=False).text
            if is_round(code, size, text) and len(all_faults(size, text)) < 90:
                found += 1
                for t in (0, 1):
                    self.check(code, size, text, t)

    def test_what_adds_up_over_rounds(self):
        many = set()
        for _, code, size, text in z_rounds(70, 90, False, 45):
            for t in (0, 1):
                self.check(code, size, text, t)
                many.add(len(forever_pairs(code, Program(size, text), t).differences))
        self.assertGreater(len(many), 3)
        code = code_of("ZII IZI IIZ")
        twice = "".join(f"measure Z{k} to a{k}\nmeasure Z{k} to b{k}\n" for k in range(3))
        for text, many in (("wait 0\nwait 1\nwait 2", 8), (twice, 7)):
            self.assertTrue(self.check(code, 3, text, 1))
            self.assertEqual(len(forever_pairs(code, Program(3, text), 1).differences), many)

    def test_histories_of_two_rounds(self):
        code = code_of("XZZXI IXZZX XIXZZ ZXIXZ")
        for text in ("wait 0\nwait 1\nwait 2\n", "wait 0\nwait 1\nx 2\nwait 3\n", "wait 0\nmeasure Z5 to a\nif a then X3\nz 1\nwait 2"):
            rounds = Rounds(code, 6, text)
            told = forever_pairs(code, Program(6, text), 1)
            self.assertIs(told.__class__, TwoHistories)
            self.assertEqual((len(told.one), len(told.other), len(told.bits)), (2, 2, 2))
            ends = []
            for faults in (told.one, told.other):
                self.assertTrue(all(len(row) <= 1 for row in faults))
                ends.append(follow(self, [rounds], [(0, row) for row in faults], told.bits))
            self.assertEqual(ends[0][0], ends[1][0])
            self.assertNotEqual(ends[0][1], ends[1][1])

    def test_bits_of_the_second_round(self):
        code = code_of("ZZIIIIIII IZZIIIIII IIIZZIIII IIIIZZIII IIIIIIZZI IIIIIIIZZ XXXXXXIII IIIXXXXXX")
        text = "measure Z0*Z1 to a\nmeasure Z3*Z4 to b\nmeasure Z6*Z7 to c\nx 0\n"
        told = forever_pairs(code, Program(9, text), 1)
        self.assertEqual((told.__class__, len(told.bits)), (TwoHistories, 2))
        ends = []
        for faults in (told.one, told.other):
            # without helpers, a round begins with what the one ahead of it has left
            standing = standing_of(start_of(code, 9))
            for row, bits in zip(faults, told.bits):
                ended = run_all(9, text, standing, {line: (letters, flip) for line, letters, flip in plain_rows(row)})
                standing, = [run.standing for run in ended if run.row(("a", "b", "c")) == bits]
            ends.append(class_left(code, 9, standing))
        self.assertEqual(ends[0][0], ends[1][0])
        self.assertNotEqual(ends[0][1], ends[1][1])
        self.assertEqual(told.bits[1][0], 1)

    def test_two_and_three_faults(self):
        for words in ("Z", "ZI IX", "-XX ZZ"):
            code = code_of(words)
            for t in (2, 3):
                self.assertTrue(self.check(code, code.size, "wait 0\nx 0\nwait 0", t))
        self.assertFalse(self.check(code_of("ZZ"), 2, "wait 0\nwait 1\nmeasure Z0*Z1 to a", 2))

    def test_what_a_table_mends_no_reader_parts(self):
        # (a) of [89]
        many = 0
        for source, code, size, text in (*random_rounds(72, 60), *z_rounds(73, 60)):
            program, table = Program(size, text), lightest(code)
            for t in range(2):
                told = forever(code, program, table, t)
                if told.__class__ is Forever:
                    many += 1
                    self.assertEqual(any_order(code, [program, program], table, t).classes, told.classes)
                    self.assertLessEqual(set(two_neighbors(code, program, table, t).classes), set(told.classes))
                    if not program.flagged:
                        self.assertIs(forever_pairs(code, program, t).__class__, ForeverPairs)
        self.assertGreater(many, 60)

    def test_later_rounds(self):
        # what is not measured is left to the last syndrome; letters of the repeated round add up
        code = code_of("ZZIII IZZII IIZZI IIIZZ")
        text = "fresh 5\ncx 5 0\nfresh 5"
        rounds = Rounds(code, 6, "")
        self.assertEqual(rounds.code.size, 5)
        told = forever_pairs(code, Program(6, text), 0)
        self.assertEqual(told.differences, (none_of(code),))
        # reading all bits tells what a table cannot know
        text = BOTH + "wait 0"
        self.assertFalse(self.check(FLIPS, 3, text, 1))

    def test_readers_know_more_than_tables(self):
        # (b) of [89]: a coin is put on; the bits tell which
        code = code_of("ZZ", hidden=None)
        text = "measure X2 to a\nif a then X0*X1"
        for table in ({}, lightest(code), {(0,): Pauli("XX")}):
            self.assertIs(forever(code, Program(3, text), table, 0).__class__, History)
        self.assertEqual(forever_pairs(code, Program(3, text), 0).differences, (none_of(code),))
        self.assertTrue(self.check(code, 3, text, 0))


class UnseenTest(unittest.TestCase):
    def reckoned(self, code, size, text):
        rounds = Rounds(code, size, text)
        plain = {bits for bits, _ in rounds.led(none_of(code), 0)}
        latest = {left for _, left in rounds.led(none_of(code), 1)} - {none_of(code), RUINED}
        number = 0
        while latest:
            if number > 2 ** (code.size + code.kept):
                return None
            following = set()
            gone_on = False
            for pair in latest:
                ends = {left for bits, left in rounds.led(pair, 0) if bits in plain}
                gone_on = gone_on or bool(ends)
                following |= ends
            if not gone_on:
                return number
            number += 1
            latest = following - {none_of(code), RUINED}
        return number

    def test_random_rounds(self):
        found = {}
        for _, code, size, text in random_rounds(65, 160, 5, most=60):
            told = unseen(code, Program(size, text))
            self.assertEqual(told, self.reckoned(code, size, text), (code.group.rows[0].letters, text))
            found[told] = found.get(told, 0) + 1
        for number in (None, 0, 1):
            self.assertGreater(found.get(number, 0), 3, found)

    def test_rounds_of_plain_codes(self):
        found = {}
        for _, code, size, text in z_rounds(71, 120):
            told = unseen(code, Program(size, text))
            self.assertEqual(told, self.reckoned(code, size, text), text)
            found[told] = found.get(told, 0) + 1
        for number in (None, 0, 1, 2):
            self.assertGreater(found.get(number, 0), 2, found)

    def test_classes_that_only_rounds_lead_to(self):
        code = code_of("ZIII IZII IIZI IIIZ")
        for text in ("fresh 3\ncx 2 3\nswap 1 2\nfresh 1\ncx 0 1\nfresh 0", "fresh 3\ncx 2 3\nfresh 2\nswap 1 2\ncx 0 1\nfresh 0"):
            self.assertEqual(unseen(code, Program(4, text)), self.reckoned(code, 4, text))

    def test_known_rounds(self):
        code = code_of("ZII IZI IIZ")
        for text, number in (("", 0), ("wait 0", None), ("fresh 0\nfresh 1\nfresh 2", 1), ("measure Z0 to a", 0),
                             ("measure Z0 to a\nmeasure Z1 to b\nmeasure Z2 to c\nwait 0", 0),
                             ("swap 0 1\nswap 1 2\nfresh 2\nwait 0", 3), ("measure Z0 to a\nif a then X0", 0),
                             ("swap 0 1\nmeasure Z0 to a", 1), ("wait 0\nmeasure Z1 to a", None)):
            self.assertEqual(unseen(code, Program(3, text)), number, text)
            self.assertEqual(self.reckoned(code, 3, text), number, text)
        self.assertEqual(unseen(code_of("Z"), Program(1, "measure Z0 to a")), 0)
        self.assertEqual(unseen(code_of("Z"), Program(1, "")), 0)
        self.assertEqual(unseen(code_of("Z"), Program(1, "fresh 0")), 1)
        self.assertIsNone(unseen(code_of("Z"), Program(1, "wait 0")))

    def test_a_round_that_leaves_something_of_itself(self):
        # one fault leaves a class other than none, or turns what the round does by itself into none
        self.assertEqual(unseen(code_of("Z"), Program(1, "x 0")), 1)
        self.assertEqual(unseen(code_of("ZI IZ"), Program(2, "x 0\nswap 0 1")), 3)


if __name__ == "__main__":
    unittest.main()
