"""[17], [18], [19], [20], [21], [22]: codes, kinds of strings, hidden pairs, codes of codes."""

import itertools
import unittest

import plain
from plain import Made, NO_SIZES, refused, seeded, string, strings, texts

from keptqubits import codes
from keptqubits.codes import Code, joined_codes, within
from keptqubits.errors import (Anticommute, BadGauge, BadHidden, BadNumber, MinusOne, NotOne, Outside, Unlike)
from keptqubits.groups import Group
from keptqubits.paulis import Pauli

FIVE = "XZZXI IXZZX XIXZZ ZXIXZ"
STEANE = "IIIXXXX IXXIIXX XIXIXIX IIIZZZZ IZZIIZZ ZIZIZIZ"

# (size, rank, gauged): all that is small, and kept from 0 to 5
SHAPES = [(size, rank, gauged) for size in range(1, 6) for rank in range(size + 1)
          for gauged in range(min(2, size - rank) + 1)]
SMALL = [shape for shape in SHAPES if shape[0] <= 4]


def told_code(source, made, hidden=None):
    """A code by strings some of which depend on others, and gauge strings that are told in several ways."""
    group = plain.mixed(source, made.size, made.group, made.rank + source.randrange(3))
    gauge = list(made.gauge)
    if gauge and source.random() < 0.7:
        gauge = plain.mixed(source, made.size, gauge + made.group[:1], len(gauge) + source.randrange(4))
    elif made.group and source.random() < 0.5:
        gauge = gauge + [source.choice(made.group)]
    return Code(made.size, group, gauge, hidden), group, gauge


class CodeTest(unittest.TestCase):
    def check_code(self, code, made, gauge):
        self.assertIs(code.__class__, Code)
        self.assertEqual((code.size, code.kept, code.gauged), (made.size, made.kept, made.gauged))
        self.assertIs(code.group.__class__, Group)
        self.assertEqual(code.group, Group(made.size, made.group))
        self.assertIs(code.gauge.__class__, tuple)
        self.assertEqual(texts(code.gauge), texts(gauge))
        self.assertTrue(plain.pairs_fit(made, code.hidden), [texts(pair) for pair in code.hidden])

    def test_small_codes_with_found_pairs(self):
        source = seeded(21)
        for size, rank, gauged in SHAPES:
            for _ in range(3):
                made = Made(source, size, rank, gauged)
                code, _, gauge = told_code(source, made)
                self.check_code(code, made, gauge)

    def test_small_codes_with_told_pairs(self):
        source = seeded(22)
        for size, rank, gauged in SHAPES:
            made = Made(source, size, rank, gauged)
            pairs = [list(pair) if source.random() < 0.5 else pair for pair in made.pairs]
            pairs = [[string(told.letters, source.choice((0, 2))) for told in pair] if isinstance(pair, list) else pair
                     for pair in pairs]
            for hidden in (pairs, tuple(pairs)):
                code, _, gauge = told_code(source, made, hidden)
                self.check_code(code, made, gauge)
                self.assertEqual([texts(pair) for pair in code.hidden], [texts(pair) for pair in pairs])

    def test_large_codes(self):
        source = seeded(23)
        for size, rank, gauged in ((23, 20, 1), (24, 0, 0), (24, 24, 0), (24, 19, 0), (24, 17, 2), (24, 12, 7),
                                   (24, 0, 24), (22, 0, 21)):
            made = Made(source, size, rank, gauged)
            code, _, gauge = told_code(source, made)
            self.check_code(code, made, gauge)
            code, _, gauge = told_code(source, made, made.pairs)
            self.check_code(code, made, gauge)
            for at, pair in enumerate(code.hidden):
                for which, told in enumerate(pair):
                    self.assertEqual(code.kind_of(told), "hidden")
                    wanted = [0] * (2 * made.kept)
                    wanted[2 * at + which] = 1
                    self.assertEqual(code.hidden_bits(told), tuple(wanted))
            for told in made.group:
                self.assertEqual(code.kind_of(told), "group")
            for told in made.gauge:
                self.assertEqual(code.kind_of(told), "gauge")
                if code.hidden:
                    self.assertEqual(code.kind_of(told.times(code.hidden[0][0])), "dressed")
            for place in range(rank):
                self.assertEqual(code.kind_of(made.image(place, "X")), "outside")

    def test_known_codes(self):
        for size, words, kept in ((5, FIVE, 1), (7, STEANE, 1), (3, "ZZI IZZ", 1), (4, "XXXX ZZZZ", 2),
                                  (6, "XXXXXX ZZZZZZ", 4), (2, "XX ZZ", 0), (5, "", 5)):
            code = Code(size, strings(words))
            self.assertEqual((code.kept, code.gauged, code.gauge), (kept, 0, ()))
        four = Code(4, strings("XXXX ZZZZ"), strings("XXII ZIZI"))
        self.assertEqual((four.kept, four.gauged), (1, 1))
        # all strings of one place are gauge strings: nothing is kept there
        self.assertEqual(Code(1, [], strings("X Z")).kept, 0)
        self.assertEqual(Code(1, [], strings("X Z Y X")).gauged, 1)
        self.assertEqual(Code(2, strings("-ZZ"), strings("ZZ -ZZ II")).kept, 1)
        self.assertEqual(Code(2, strings("ZZ"), strings("-II")).gauged, 0)

    def test_default_values_and_names(self):
        named = Code(2, strings("ZZ"), gauge=strings("ZZ"), hidden=[strings("XX ZI")])
        self.assertEqual(texts(named.hidden[0]), ["XX", "ZI"])
        self.assertEqual(Code(2, strings("ZZ")).gauge, ())
        self.assertEqual(Code(2, strings("XX ZZ"), [], []).hidden, ())
        self.assertEqual(Code(2, strings("XX ZZ")).hidden, ())

    def test_lists_that_change_behind(self):
        group, gauge, pairs = strings("XXXX ZZZZ"), strings("XXII ZIZI"), [strings("XIXI ZZII")]
        code = Code(4, group, gauge, pairs)
        before = code.kept, code.group, texts(code.gauge), [texts(pair) for pair in code.hidden]
        pairs[0].reverse()
        pairs[0].append(Pauli("IIII"))
        pairs.append("more")
        group.clear()
        gauge.pop()
        self.assertEqual((code.kept, code.group, texts(code.gauge), [texts(pair) for pair in code.hidden]), before)
        self.assertEqual(code.hidden_bits(Pauli("XIXI")), (1, 0))
        self.assertEqual(code.kind_of(Pauli("ZIZI")), "gauge")

    def test_what_is_defined_here(self):
        for name in ("Code", "joined_codes", "within"):
            self.assertEqual(getattr(codes, name).__module__, "keptqubits.codes")
        for name in ("__init__", "syndrome_of", "kind_of", "hidden_bits"):
            self.assertIn(name, vars(Code))


class KindsTest(unittest.TestCase):
    def check_all_strings(self, code, group, gauge):
        kinds = plain.kinds_list(code.size, group, gauge)
        for told in plain.all_strings(code.size):
            kind = kinds[told.letters]
            self.assertEqual(code.kind_of(told), kind, told.letters)
            self.assertEqual(code.syndrome_of(told), tuple(int(not told.commutes(row)) for row in code.group.rows))
            if kind == "outside":
                self.assertIs(refused(self, Outside, code.hidden_bits, told).string, told)
                self.assertIn(1, code.syndrome_of(told))
            else:
                wanted = []
                for one, other in code.hidden:
                    wanted += [int(not told.commutes(other)), int(not told.commutes(one))]
                found = code.hidden_bits(told)
                self.assertEqual(found, tuple(wanted))
                self.assertIs(found.__class__, tuple)
                self.assertEqual(1 not in found, kind in ("group", "gauge"))

    def test_all_strings_of_small_codes(self):
        source = seeded(24)
        for size, rank, gauged in SMALL:
            made = Made(source, size, rank, gauged)
            code, group, gauge = told_code(source, made)
            self.check_all_strings(code, group, gauge)
            code, group, gauge = told_code(source, made, made.pairs)
            self.check_all_strings(code, group, gauge)

    def test_all_strings_of_some_of_five_places(self):
        source = seeded(25)
        self.check_all_strings(Code(5, strings(FIVE)), strings(FIVE), [])
        for rank, gauged in ((2, 1), (1, 2)):
            made = Made(source, 5, rank, gauged)
            code, group, gauge = told_code(source, made)
            self.check_all_strings(code, group, gauge)

    def test_known_kinds(self):
        code = Code(4, strings("XXXX -ZZZZ"), strings("XXII ZIZI"), [strings("XIXI ZZII")])
        wanted = {"IIII": "group", "XXXX": "group", "ZZZZ": "group", "iYYYY": "group", "-XXII": "gauge",
                  "IIXX": "gauge", "IZIZ": "gauge", "YXZI": "gauge", "XIXI": "hidden", "-iZZII": "hidden",
                  "YZXI": "hidden", "XIIX": "dressed", "ZIIZ": "dressed", "XIII": "outside", "XZII": "outside"}
        for text, kind in wanted.items():
            self.assertEqual(code.kind_of(Pauli(text)), kind, text)
        for text, bits in {"XIXI": (1, 0), "ZZII": (0, 1), "iYZXI": (1, 1), "XXII": (0, 0), "-IIII": (0, 0),
                           "XIIX": (1, 0)}.items():
            self.assertEqual(code.hidden_bits(Pauli(text)), bits, text)
        self.assertEqual(code.syndrome_of(Pauli("XZII")), (1, 1))
        self.assertEqual(code.syndrome_of(Pauli("XIII")), (0, 1))

    def test_outside_keeps_the_string_as_it_was_passed(self):
        code = Code(3, strings("ZZI IZZ"))
        for text in ("XII", "-XII", "iIYI", "-iZZX"):
            told = Pauli(text)
            self.assertIs(refused(self, Outside, code.hidden_bits, told).string, told)

    def test_unlike_sizes(self):
        for code in (Code(2, strings("ZZ")), Code(2, []), Code(2, strings("XX ZZ"))):
            for text in ("X", "ZZZ", "iX", "-iXYZ"):
                for call in (code.syndrome_of, code.kind_of, code.hidden_bits):
                    self.assertEqual(refused(self, Unlike, call, Pauli(text)).what, "size")

    def test_codes_do_not_change(self):
        code = Code(4, strings("XXXX ZZZZ"), strings("XXII ZIZI"))
        kept = dict(vars(code))
        for told in plain.all_strings(4)[::5]:
            self.assertEqual(code.kind_of(told), code.kind_of(told))
            code.syndrome_of(told)
        joined_codes(code, code)
        within(code, Code(1, []))
        self.assertEqual(vars(code), kept)

    def test_equal_calls_give_equal_pairs(self):
        for words in (FIVE, STEANE):
            made = [Code(len(words.split()[0]), strings(words)) for _ in range(2)]
            self.assertEqual([texts(pair) for pair in made[0].hidden], [texts(pair) for pair in made[1].hidden])


class ErrorsTest(unittest.TestCase):
    # gauge strings and pairs that are refused, for a group of two places
    LATER = [("X iXX", None), ("XI", None), ("X", [strings("XX XX")]), ("ZI XX IX ZZ", [strings("X Z")])]

    def test_errors_of_the_group_go_ahead(self):
        for gauge, hidden in self.LATER:
            for size in NO_SIZES:
                error = refused(self, BadNumber, Code, size, strings("iZZ"), strings(gauge), hidden)
                self.assertEqual(error.what, "size")
                self.assertIs(error.number, size)
            refused(self, Unlike, Code, 2, strings("ZZ iZ"), strings(gauge), hidden)
            given = strings("ZZ iZZ XI")
            error = refused(self, BadNumber, Code, 2, given, strings(gauge), hidden)
            self.assertEqual((error.what, error.number), ("sign", given[1]))
            error = refused(self, Anticommute, Code, 2, strings("ZZ IZ XI -ZZ"), strings(gauge), hidden)
            self.assertEqual((error.one, error.other), (0, 2))
            error = refused(self, MinusOne, Code, 2, strings("ZZ IZ ZI -ZZ"), strings(gauge), hidden)
            self.assertEqual(error.indices, (0, 3))

    def test_gauge_strings_one_by_one(self):
        group = strings("ZZI IZZ")
        hidden = [strings("ZZI ZZI")]
        for ahead in range(3):
            good = strings("ZZI -ZII IZZ")[:ahead]
            # the first wrong string is told, with its first fault, whatever comes behind it
            for behind in ("", "XII", "iZII", "Z", "iX XII"):
                rest = strings(behind)
                self.assertEqual(refused(self, Unlike, Code, 3, group, good + strings("iX") + rest, hidden).what, "size")
                for wrong in strings("iXII -iZII -iXXI iIII"):
                    error = refused(self, BadNumber, Code, 3, group, good + [wrong] + rest, hidden)
                    self.assertEqual(error.what, "sign")
                    self.assertIs(error.number, wrong)
                error = refused(self, BadGauge, Code, 3, group, good + strings("XII") + rest, hidden)
                self.assertEqual(error.index, ahead)

    def test_gauge_products_that_commute_with_all(self):
        hidden = [strings("ZZ XX ")]
        for size, group, gauge in ((1, "", "Z"), (2, "ZZ", "ZI"), (2, "", "XX ZZ"), (2, "", "XI ZI IX"),
                                   (3, "", "XII ZII IXX IZZ"), (3, "ZZZ", "ZII ZII"), (2, "", "XX ZI XX -YX IX IX"),
                                   (4, "XXXX", "XXII ZIZI IXIX"), (4, "ZZZZ", "XXII ZIZI IXIX IZIZ")):
            given = strings(gauge)
            error = refused(self, BadGauge, Code, size, strings(group), given, hidden)
            self.assertEqual(error.index, len(given))
        # in the group, up to the phase, such products may be
        self.assertEqual(Code(2, strings("ZZ"), strings("-ZZ ZZ")).gauged, 0)
        self.assertEqual(Code(4, strings("XXXX ZZZZ"), strings("XXII ZIZI IIXX -IZIZ")).gauged, 1)

    def test_gauge_products_against_a_list_of_all(self):
        source = seeded(26)
        seen = {True: 0, False: 0}
        for _ in range(300):
            size = source.randrange(1, 5)
            made = Made(source, size, source.randrange(size + 1))
            free = [made.image(place, letter) for place in range(made.rank, size) for letter in "XZ"] + made.group
            gauge = plain.mixed(source, size, source.sample(free, source.randrange(len(free) + 1)), 0)
            letters = [told.letters for told in gauge]
            of_group = plain.span_list(size, made.group)
            bad = [one for one in plain.span_list(size, gauge)
                   if plain.commute_with_all(one, letters) and one not in of_group]
            seen[bool(bad)] += 1
            if bad:
                self.assertEqual(refused(self, BadGauge, Code, size, made.group, gauge).index, len(gauge))
            else:
                code = Code(size, made.group, gauge)
                rank = plain.rank_of(size, made.group + gauge)
                self.assertEqual(2 * code.gauged, rank - made.rank)
                self.assertEqual(code.kept, size - made.rank - code.gauged)
        self.assertGreater(min(seen.values()), 50)

    def test_hidden_pairs(self):
        group, gauge = strings("XXXXII -ZZZZII"), strings("XXIIII ZIZIII")
        good = [strings("XIXIII ZZIIII"), strings("IIIIXI IIIIZI"), strings("IIIIIY -IIIIIX")]
        self.assertEqual(Code(6, group, gauge, good).kept, 3)
        # each with a string of its own kind: no sign, another size, against the group, the gauge, one ahead, its own
        bad = [strings("iXIXIII ZZIIII"), strings("XIXIII -iZZIIII"), strings("XIXII ZZIIII"),
               strings("XIXIII ZZIIIII"), strings("XIIIII ZIIIII"), strings("XIXIII ZXIIII"),
               strings("XIIXII ZZIIII"), strings("XIXIII ZIIZII"), strings("XIXIII XIXIII"), strings("XIXIII XIXIXI"),
               strings("IIIIZI IIIIZI"), strings("IIIIII IIIIII")]
        for index in range(3):
            for wrong in bad:
                for behind in ([], good[index + 1:], bad[:1]):
                    pairs = good[:index] + [wrong] + behind
                    self.assertEqual(refused(self, BadHidden, Code, 6, group, gauge, pairs).index, index, texts(wrong))

    def test_hidden_pairs_that_meet_earlier_ones(self):
        for second in ("ZI IX", "IX ZI", "IX ZZ", "XI IZ", "ZX IZ", "YI IY"):
            pairs = [strings("XI ZI"), strings(second)]
            self.assertEqual(refused(self, BadHidden, Code, 2, [], [], pairs).index, 1, second)
        self.assertEqual(Code(2, [], [], [strings("XI ZI"), strings("-IY IX")]).kept, 2)

    def test_too_few_pairs(self):
        good = [strings("XIXIII ZZIIII"), strings("IIIIXI IIIIZI"), strings("IIIIIY IIIIIX")]
        for many in range(3):
            error = refused(self, BadHidden, Code, 6, strings("XXXX" + "II ZZZZII"), strings("XXIIII ZIZIII"),
                            good[:many])
            self.assertEqual(error.index, many)
        self.assertEqual(refused(self, BadHidden, Code, 1, [], (), ()).index, 0)
        # a wrong pair goes ahead of there being too few
        self.assertEqual(refused(self, BadHidden, Code, 3, [], (), [strings("XII XII")]).index, 0)
        # there can be no more than are kept
        more = good + [strings("IIIIXI IIIIZI")]
        self.assertEqual(refused(self, BadHidden, Code, 6, strings("XXXXII ZZZZII"), strings("XXIIII ZIZIII"), more).index, 3)
        self.assertEqual(refused(self, BadHidden, Code, 2, strings("XX ZZ"), (), [strings("XX ZZ")]).index, 0)

    def test_gauge_ahead_of_hidden(self):
        bad = [strings("X X")]
        self.assertEqual(refused(self, BadGauge, Code, 2, [], strings("ZI"), bad).index, 1)
        self.assertEqual(refused(self, BadGauge, Code, 2, strings("ZZ"), strings("ZZ XI"), bad).index, 1)
        refused(self, Unlike, Code, 2, strings("ZZ"), strings("ZZ XII"), bad)
        refused(self, BadNumber, Code, 2, strings("ZZ"), strings("ZZ iZZ"), bad)


def padded(told, ahead, size):
    return string("I" * ahead + told.letters + "I" * (size - ahead - told.size), told.phase)


class CodesOfCodesTest(unittest.TestCase):
    def some_codes(self, seed, shapes):
        source = seeded(seed)
        for size, rank, gauged in shapes:
            made = Made(source, size, rank, gauged)
            yield told_code(source, made, made.pairs if source.random() < 0.5 else None)[0]

    def test_joined_codes(self):
        shapes = [shape for shape in SHAPES if shape[0] <= 3] + [(11, 7, 2), (12, 8, 0)]
        given = list(self.some_codes(27, shapes))
        for code, other in itertools.product(given, repeat=2):
            if (code.size + other.size) % 3 and code.size + other.size < 20:
                continue
            told = joined_codes(code, other)
            size = code.size + other.size
            self.assertIs(told.__class__, Code)
            self.assertEqual((told.size, told.kept, told.gauged),
                             (size, code.kept + other.kept, code.gauged + other.gauged))
            self.assertEqual(told.group, Group(size, [padded(row, 0, size) for row in code.group.rows]
                                               + [padded(row, code.size, size) for row in other.group.rows]))
            self.assertEqual(texts(told.gauge), texts([padded(row, 0, size) for row in code.gauge]
                                                      + [padded(row, code.size, size) for row in other.gauge]))
            wanted = [[padded(row, 0, size) for row in pair] for pair in code.hidden]
            wanted += [[padded(row, code.size, size) for row in pair] for pair in other.hidden]
            self.assertEqual([texts(pair) for pair in told.hidden], [texts(pair) for pair in wanted])

    def image(self, told, inner):
        """The image of a string: the product of what its letters become, place by place."""
        one, other = inner.hidden[0]
        size = told.size * inner.size
        total = string("I" * size, told.phase)
        for place, letter in enumerate(told.letters):
            ahead = place * inner.size
            if letter == "Y":
                total = total.times(string("I" * size, 1))
            if letter in "XY":
                total = total.times(padded(one, ahead, size))
            if letter in "YZ":
                total = total.times(padded(other, ahead, size))
        return total

    def check_within(self, code, inner):
        told = within(code, inner)
        size = code.size * inner.size
        self.assertIs(told.__class__, Code)
        self.assertEqual((told.size, told.kept, told.gauged), (size, code.kept, code.gauged))
        rows = [padded(row, place * inner.size, size) for place in range(code.size) for row in inner.group.rows]
        images = [self.image(row, inner) for row in code.group.rows]
        self.assertTrue(all(row.phase in (0, 2) for row in images))
        self.assertEqual(told.group, Group(size, rows + images))
        self.assertEqual(texts(told.gauge), texts([self.image(row, inner) for row in code.gauge]))
        self.assertEqual([texts(pair) for pair in told.hidden],
                         [texts([self.image(row, inner) for row in pair]) for pair in code.hidden])

    def inner_codes(self):
        source = seeded(28)
        yield Code(1, [])
        yield Code(1, [], (), [strings("Y -X")])
        yield Code(1, [], (), [strings("-Z Y")])
        yield Code(3, strings("ZZI -IZZ"))
        yield Code(3, strings("ZZI IZZ"), [], [strings("-YYY ZII")])
        yield Code(5, strings(FIVE), [], [strings("-XXXXX ZZZZZ")])
        for size in (2, 3, 4):
            made = Made(source, size, size - 1)
            yield Code(size, made.group)
            yield Code(size, made.group, [], [[string(row.letters, source.choice((0, 2))) for row in made.pairs[0]]])

    def test_within(self):
        for inner in self.inner_codes():
            shapes = [shape for shape in SHAPES if shape[0] * inner.size <= 12 and shape[0] <= 4]
            for code in self.some_codes(29 + inner.size, shapes):
                self.check_within(code, inner)

    def test_within_large_ones(self):
        five = Code(4, strings("XXXX ZZZZ"), strings("XXII ZIZI"))
        self.check_within(five, Code(5, strings(FIVE)))
        self.check_within(Code(3, strings("-ZZI -IZZ")), Code(7, strings(STEANE)))
        self.check_within(Code(8, strings("YYYYYYYY -YIYIYIYI")), Code(3, strings("XXI IXX")))
        nine = within(Code(3, strings("XXI IXX"), (), [strings("XII ZZZ")]), Code(3, strings("ZZI IZZ"), (), [strings("XXX ZII")]))
        self.assertEqual([texts(pair) for pair in nine.hidden], [["XXXIIIIII", "ZIIZIIZII"]])
        self.assertEqual(nine.group.sign_of(Pauli("XXXXXXIII")), 1)

    def test_not_one(self):
        code = Code(2, strings("ZZ"))
        for inner in (Code(2, strings("XX ZZ")), Code(2, []), Code(4, strings("XXXX ZZZZ")), Code(1, strings("-Z")),
                      Code(4, strings("XXXX ZZZZ"), strings("XXII ZIZI")), Code(2, strings("ZZ"), strings("ZZ")),
                      Code(2, strings("ZZ"), strings("II"))):
            refused(self, NotOne, within, code, inner)
        # the outer code may keep any number
        for outer in (Code(2, strings("XX ZZ")), Code(2, []), Code(4, strings("XXXX ZZZZ"), strings("XXII ZIZI"))):
            self.assertEqual(within(outer, code).kept, outer.kept)


if __name__ == "__main__":
    unittest.main()
