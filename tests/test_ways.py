"""[90] to [96]: measured strings, and ways from code to code."""

import itertools
import unittest

from plain import (Made, all_letters, all_strings, commute_with_all, group_list, is_reduced, letters_commute,
                   letters_times, mixed, refused, seeded, single, some_made, span_list, string, strings, texts)
from standings import Standing, held
from runner import word
from keptqubits.codes import Code
from keptqubits.errors import BadGauge, BadNumber, Unlike
from keptqubits.groups import Group
from keptqubits.paulis import Pauli
from keptqubits.programs import Program
from keptqubits.runs import runs
from keptqubits.ways import (Along, ClosedLot, Kept, Looked, Stopped, Way, measured_along, measured_in, way, way_text)


def stored(code, hidden=None):
    """The held strings of stored states that hang together with twins: group, and hidden pairs with their twins."""
    found = [held(string(row.letters + "I" * code.kept, row.phase)) for row in code.group.rows]
    for index, pair in enumerate(code.hidden if hidden is None else hidden):
        for told, letter in zip(pair, "XZ"):
            found.append(held(string(told.letters + single(code.kept, index, letter).letters, told.phase)))
    return found


def held_wide(told, kept):
    return held(string(told.letters + "I" * kept, told.phase))


def is_stored(case, standing, code, hidden=None):
    """Check that a standing has all strings of stored states."""
    for row in stored(code, hidden):
        case.assertEqual(standing.sign_of(row), 1)


def codes_of(seed, sizes):
    for made, gauge in some_made(seed, sizes):
        yield Code(made.size, made.group, gauge, made.pairs)
        if made.kept and not gauge:
            yield Code(made.size, made.group, gauge)


class MeasuredInTest(unittest.TestCase):
    def check_behind(self, code, told, behind):
        """Whether a code is the one behind."""
        rows = [row for row in code.group.rows]
        old = group_list(code.size, rows)
        wanted = {letters: sign for letters, sign in old.items() if letters_commute(letters, told.letters)}
        new = group_list(code.size, [told, *[string(letters, 1 - sign) for letters, sign in wanted.items()]])
        self.assertEqual(group_list(code.size, behind.group.rows), new)
        gauge = [letters for letters in span_list(code.size, [*rows, *code.gauge])
                 if letters_commute(letters, told.letters)]
        self.assertEqual(span_list(code.size, [*behind.group.rows, *behind.gauge]),
                         span_list(code.size, [told, *map(Pauli, gauge)]))
        if not code.gauge:
            self.assertEqual(behind.gauge, ())
        self.assertEqual(behind.kept, code.kept)
        of_gauge = told.letters in span_list(code.size, [*rows, *code.gauge])
        self.assertEqual(behind.gauged, code.gauged - of_gauge)
        self.assertEqual(len(behind.hidden), code.kept)
        for pair, other in zip(code.hidden, behind.hidden):
            for one, two in zip(pair, other):
                moved = one.times(two)
                self.assertEqual(old.get(moved.letters), {0: 1, 2: -1}.get(moved.phase))

    def check(self, code, told):
        kind = code.kind_of(told)
        found = measured_in(code, told)
        if kind in ("hidden", "dressed"):
            self.assertIs(found.__class__, Looked)
            self.assertEqual(found.bits, code.hidden_bits(told))
            return
        self.assertIs(found.__class__, Kept)
        if kind == "group":
            self.assertEqual((found.sign, found.frame), (code.group.sign_of(told), None))
            self.assertIn(found.sign, (1, -1))
            self.assertEqual((found.code.group, texts(found.code.gauge)), (code.group, texts(code.gauge)))
            self.assertEqual([texts(pair) for pair in found.code.hidden], [texts(pair) for pair in code.hidden])
            return
        self.assertIsNone(found.sign)
        frame = found.frame
        self.assertIn(frame.phase, (0, 2))
        self.assertFalse(letters_commute(frame.letters, told.letters))
        self.assertIn(frame.letters, span_list(code.size, [*code.group.rows, *code.gauge]))
        self.check_behind(code, told, found.code)
        ends = Standing(stored(code)).measured(held_wide(told, code.kept))
        self.assertEqual([bit for bit, _ in ends], [0, 1])
        for bit, standing in ends:
            if bit:
                standing = standing.put_on(held_wide(frame, code.kept))
            is_stored(self, standing, found.code)

    def test_all_strings_of_small_codes(self):
        for code in codes_of(71, (1, 2, 3)):
            for told in all_strings(code.size):
                if told.phase % 2 == 0:
                    self.check(code, told)

    def test_larger_codes(self):
        source = seeded(72)
        for code in codes_of(73, (4, 5)):
            for _ in range(12):
                self.check(code, string(source.choice(all_letters(code.size)), source.choice((0, 2))))
            for told in [*code.group.rows, *code.gauge]:
                self.check(code, string(told.letters, told.phase + 2))

    def test_gauge_strings_of_the_group(self):
        code = Code(2, strings("ZZ"), strings("ZZ -ZZ"))
        for told in strings("ZZ -ZZ XI YY XX IZ"):
            self.check(code, told)

    def test_errors(self):
        code = Code(2, strings("ZZ"))
        for told in strings("iX X XXX iXXX"):
            self.assertEqual(refused(self, Unlike, measured_in, code, told).what, "size")
        for told in strings("iXX -iXX iZZ iII"):
            error = refused(self, BadNumber, measured_in, code, told)
            self.assertEqual((error.what, error.number is told), ("sign", True))


class MeasuredAlongTest(unittest.TestCase):
    def check(self, code, given):
        found = measured_along(code, given)
        now, signs, frames = code, [], []
        standings = [Standing(stored(code))]
        for number, told in enumerate(given):
            kind = now.kind_of(told)
            if kind in ("hidden", "dressed"):
                self.assertIs(found.__class__, Stopped)
                self.assertEqual((found.number, found.bits), (number, now.hidden_bits(told)))
                return "stopped"
            step = measured_in(now, told)
            now = step.code
            signs.append(step.sign)
        self.assertIs(found.__class__, Along)
        self.assertEqual(list(found.signs), signs)
        self.assertEqual(len(found.frames), len(given))
        for told, frame in zip(given, found.frames):
            following = []
            for standing in standings:
                for bit, behind in standing.measured(held_wide(told, code.kept)):
                    if frame is not None and bit:
                        behind = behind.put_on(held_wide(frame, code.kept))
                    following.append(behind)
            standings = following[:8]
        frames = [frame is None for frame in found.frames]
        self.assertEqual(frames, [sign is not None for sign in signs])
        for standing in standings:
            is_stored(self, standing, found.code)
        self.assertEqual(found.code.kept, code.kept)
        return "along"

    def test_several_strings(self):
        source = seeded(74)
        found = []
        for code in codes_of(75, (2, 3, 4)):
            for _ in range(4):
                given = [string(source.choice(all_letters(code.size)), source.choice((0, 2)))
                         for _ in range(source.randint(1, 4))]
                found.append(self.check(code, source.choice([list, tuple])(given)))
        self.assertGreater(min(found.count("along"), found.count("stopped")), 20)

    def test_none(self):
        for code in codes_of(76, (1, 2, 3)):
            for none in ([], ()):
                found = measured_along(code, none)
                self.assertEqual((found.signs, found.frames), ((), ()))
                self.assertEqual(found.code.group, code.group)
                self.assertEqual(texts(found.code.gauge), texts(code.gauge))
                self.assertEqual([texts(pair) for pair in found.code.hidden], [texts(pair) for pair in code.hidden])

    def test_stopped_behind_others(self):
        code = Code(3, strings("ZZI IZZ"))
        found = measured_along(code, strings("XII -XII IXX ZZZ"))
        self.assertIs(found.__class__, Stopped)
        self.assertEqual(found.number, 2)
        self.assertEqual(found.bits, code.hidden_bits(Pauli("XXX")))

    def test_errors(self):
        code = Code(2, strings("ZZ"))
        self.assertEqual(refused(self, Unlike, measured_along, code, strings("ZI iXX X")).what, "size")
        given = strings("ZI XX iXX -iXX")
        error = refused(self, BadNumber, measured_along, code, given)
        self.assertEqual((error.what, error.number is given[2]), ("sign", True))


def plain(size, rows):
    """The plain group of some letters, as the set of the letters of all its strings."""
    return frozenset(span_list(size, rows))


def led(size, group, letters):
    """The plain group to which letters lead one, or None."""
    if commute_with_all(letters, group):
        return None
    kept = [other for other in group if letters_commute(other, letters)]
    return frozenset(kept + [letters_times(other, letters) for other in kept])


def searched(size, start, given):
    """All plain groups that are met, each with the first shortest path to it, in their order."""
    found = {start: ()}
    latest = [start]
    while latest:
        paths = sorted((found[group] + (index,), led(size, group, told.letters))
                       for group in latest for index, told in enumerate(given) if led(size, group, told.letters))
        latest = []
        for path, group in paths:
            if group not in found:
                found[group] = path
                latest.append(group)
    return found


class WayTest(unittest.TestCase):
    def check(self, code, target, given):
        size = code.size
        told = way(code, target, given)
        found = searched(size, plain(size, code.group.rows), given)
        goal = plain(size, target.group.rows)
        if goal not in found:
            self.assertIs(told.__class__, ClosedLot)
            self.assertEqual([plain(size, group.rows) for group in told.groups], list(found))
            self.assertTrue(all(group.__class__ is Group and is_reduced(group.rows)
                                and not [row for row in group.rows if row.phase] for group in told.groups))
            return None
        self.assertIs(told.__class__, Way)
        self.assertEqual(told.path, found[goal])
        self.assertEqual(len(told.frames), len(told.path))
        self.assertTrue(all(one.phase in (0, 2) and one.size == size for one in (*told.frames, told.string)))
        self.assertEqual([len(pair) for pair in told.hidden], [2] * code.kept)
        standings = [Standing(stored(code))]
        for index, frame in zip(told.path, told.frames):
            following = []
            for standing in standings:
                for bit, behind in standing.measured(held_wide(given[index], code.kept)):
                    following.append(behind.put_on(held_wide(frame, code.kept)) if bit else behind)
            standings = following
        for standing in standings:
            is_stored(self, standing.put_on(held_wide(told.string, code.kept)), Code(size, target.group.rows),
                      told.hidden)
        self.check_text(code, target, given, told)
        return len(told.path)

    def check_text(self, code, target, given, told):
        lines = []
        for number, (index, frame) in enumerate(zip(told.path, told.frames), start=1):
            signs = ["-" if one.phase else "" for one in (given[index], frame)]
            lines += [f"measure {word(given[index].letters, signs[0])} to b{number}",
                      f"if b{number} then {word(frame.letters, signs[1])}"]
        lines += [f"{letter.lower()} {place}" for place, letter in enumerate(told.string.letters) if letter != "I"]
        text = way_text(given, told)
        self.assertEqual(text, "\n".join(lines))
        ended = runs(Program(code.size, text), code.group)
        self.assertEqual(len(ended), 2 ** len(told.path))
        for run in ended:
            self.assertEqual(run.group, target.group)

    def test_random_codes(self):
        source = seeded(77)
        found = []
        for _ in range(150):
            size = source.randint(1, 4)
            rank = source.randint(0, size)
            code, target = [Code(size, Made(source, size, rank, gates=2 * size).group) for _ in range(2)]
            given = [string(source.choice(all_letters(size)), source.choice((0, 2))) for _ in range(source.randint(0, 4))]
            if source.random() < 0.4 and rank:
                given += [string(row.letters, source.choice((0, 2))) for row in target.group.rows]
            found.append(self.check(code, target, source.choice([list, tuple])(given)))
        for many in (None, 0, 1, 2):
            self.assertGreater(found.count(many), 2, many)

    def test_targets_that_are_met(self):
        # targets at the end of random paths, with any signs
        source = seeded(78)
        lengths = []
        for _ in range(80):
            size = source.randint(2, 4)
            made = Made(source, size, source.randint(1, size))
            code = Code(size, made.group, (), made.pairs)
            given = [string(source.choice(all_letters(size)), source.choice((0, 2))) for _ in range(5)]
            groups = list(searched(size, plain(size, code.group.rows), given))
            if len(groups) > 300:
                continue
            goal = source.choice(groups)
            rows = []
            while len(rows) < code.group.rank:
                letters = source.choice(sorted(goal - span_list(size, rows)))
                rows.append(string(letters, source.choice((0, 2))))
            lengths.append(self.check(code, Code(size, mixed(source, size, rows, len(rows))), given))
        self.assertNotIn(None, lengths)
        self.assertGreater(max(lengths), 2)

    def test_the_code_itself(self):
        code = Code(3, strings("ZZI -IZZ"))
        for given in ([], strings("XXX XII"), ()):
            self.assertEqual(self.check(code, code, given), 0)
            told = way(code, code, given)
            self.assertEqual((told.path, told.frames, told.string.weight), ((), (), 0))
            self.assertEqual(way_text(given, told), "")
            self.assertEqual(self.check(code, Code(3, strings("-ZZI IZZ")), given), 0)

    def test_closed_lots(self):
        code = Code(2, strings("ZZ"))
        told = way(code, Code(2, strings("XX")), [])
        self.assertEqual([texts(group.rows) for group in told.groups], [["ZZ"]])
        told = way(Code(2, strings("-ZZ")), Code(2, strings("XX")), strings("ZI -XI"))
        self.assertEqual([texts(group.rows) for group in told.groups], [["ZZ"], ["XI"], ["ZI"]])

    def test_codes_that_keep_nothing_and_all(self):
        self.assertEqual(self.check(Code(2, strings("XX ZZ")), Code(2, strings("XI -IX")), strings("ZI XI IX")), 1)
        self.assertEqual(self.check(Code(2, []), Code(2, []), strings("ZI")), 0)

    def test_errors(self):
        code, other = Code(2, strings("ZZ")), Code(2, strings("XX"))
        gauged, trivial = Code(3, [], strings("XII ZII")), Code(2, strings("ZZ"), strings("ZZ"))
        for bad in (gauged, trivial):
            self.assertEqual(refused(self, BadGauge, way, bad, code, strings("iX")).index, 0)
            self.assertEqual(refused(self, BadGauge, way, code, bad, strings("iX")).index, 0)
        self.assertEqual(refused(self, Unlike, way, code, Code(3, []), strings("iXX")).what, "size")
        self.assertEqual(refused(self, Unlike, way, code, Code(2, []), strings("iXX X")).what, "size")
        given = strings("XX iXX -iXX")
        error = refused(self, BadNumber, way, code, Code(2, []), given)
        self.assertEqual((error.what, error.number is given[1]), ("sign", True))
        for keeping in (Code(2, []), Code(2, strings("XX ZZ"))):
            self.assertEqual(refused(self, Unlike, way, code, keeping, strings("XX")).what, "kept")
        self.assertIs(way(code, Code(2, strings("-XI")), strings("XI")).__class__, Way)
        self.assertIs(way(code, other, strings("XI")).__class__, ClosedLot)

    def test_the_first_of_several_shortest_paths(self):
        code, target = Code(2, strings("ZI IZ")), Code(2, strings("XI IX"))
        for given in itertools.permutations(strings("XI IX XX -XI")):
            self.assertEqual(self.check(code, target, list(given)), 2)


if __name__ == "__main__":
    unittest.main()
