"""[27], [28], [30], [31]: what acts within a lot, and what may be moved off it."""

import unittest

import plain
from plain import Listed, Made, refused, seeded, string, strings, texts

from keptqubits import regions
from keptqubits.codes import Code, joined_codes, within
from keptqubits.errors import BadLot, BadNumber, Outside, Unlike
from keptqubits.paulis import Pauli
from keptqubits.regions import Inside, Moved, Region, bare_region, moved_off, moved_one, region

FIVE = "XZZXI IXZZX XIXZZ ZXIXZ"
SHOR = "ZZIIIIIII IZZIIIIII IIIZZIIII IIIIZZIII IIIIIIZZI IIIIIIIZZ XXXXXXIII IIIXXXXXX"


class Checks(unittest.TestCase):
    def check_inside(self, told, code, lot, empty, bare):
        """That the strings of a Region are what the document asks of them."""
        self.assertIs(told.__class__, Region)
        self.assertIs(told.inside.__class__, tuple)
        self.assertEqual(len(told.inside), told.number)
        for one in told.inside:
            self.assertIs(one.__class__, Pauli)
            self.assertIn(one.phase, (0, 2))
            self.assertTrue(plain.is_within(one.letters, lot))
            self.assertNotIn(1, code.syndrome_of(one))
            if bare:
                self.assertTrue(all([one.commutes(other) for other in code.gauge]))
        for letters in products_but_none(code.size, told.inside):
            self.assertNotIn(code.kind_of(Pauli(letters)), empty)

    def check_moved(self, code, lot, given, moved):
        """That a string is another one times a string of the group, with its sign, and I on the lot."""
        self.assertIs(moved.__class__, Pauli)
        self.assertTrue(plain.is_within(moved.letters, [place for place in range(code.size) if place not in lot]))
        self.assertEqual(code.group.sign_of(given.times(moved)), 1)

    def check_moved_off(self, code, lot, number):
        told = moved_off(code, lot)
        if number:
            self.assertIs(told.__class__, Inside)
            self.assertIn(code.kind_of(told.string), ("dressed", "hidden"))
            self.assertIn(told.string.phase, (0, 2))
            self.assertTrue(plain.is_within(told.string.letters, lot))
        else:
            self.assertIs(told.__class__, Moved)
            self.assertIs(told.strings.__class__, tuple)
            flat = [row for pair in code.hidden for row in pair]
            self.assertEqual(len(told.strings), len(flat))
            for given, moved in zip(flat, told.strings):
                self.check_moved(code, lot, given, moved)


def products_but_none(size, given):
    """The letters of all products of one or more of the strings, each taken once."""
    found = []
    for row in given:
        found += [plain.letters_times(letters, row.letters) for letters in found] + [row.letters]
    return found


class SmallTest(Checks):
    def all_codes(self, seed, sizes):
        source = seeded(seed)
        for made, gauge in plain.some_made(seed, sizes):
            hidden = made.pairs if source.random() < 0.5 else None
            yield made, gauge, Code(made.size, made.group, gauge, hidden)

    def test_all_lots_of_small_codes(self):
        for made, gauge, code in self.all_codes(41, range(1, 6)):
            listed = Listed(made.size, made.group, gauge)
            lots = plain.all_lots_of(made.size)
            for index, lot in enumerate(lots):
                given = lot if index % 2 else list(lot)
                told = region(code, given)
                self.assertEqual(told.number, listed.number(lot), (texts(made.group), texts(gauge), lot))
                self.check_inside(told, code, lot, ("group", "gauge"), False)
                bare = bare_region(code, given)
                self.assertEqual(bare.number, listed.bare_number(lot))
                self.check_inside(bare, code, lot, ("group",), True)
                rest = lots[len(lots) - 1 - index]
                self.assertEqual(told.number + bare_region(code, rest).number, 2 * code.kept)
                if not gauge:
                    self.assertEqual(told.number, bare.number)
                self.check_moved_off(code, given, told.number)

    def test_empty_lot_and_all_places(self):
        for made, gauge, code in self.all_codes(42, range(1, 5)):
            for none in ((), []):
                self.assertEqual((region(code, none).number, region(code, none).inside), (0, ()))
                self.assertEqual((bare_region(code, none).number, bare_region(code, none).inside), (0, ()))
                self.check_moved_off(code, none, 0)
            everything = tuple(range(made.size))
            self.assertEqual(region(code, everything).number, 2 * made.kept)
            self.assertEqual(bare_region(code, everything).number, 2 * made.kept)
            self.check_moved_off(code, everything, made.kept)

    def test_moved_one_of_all_strings(self):
        for made, gauge, code in self.all_codes(43, range(1, 4)):
            group = plain.group_list(made.size, made.group)
            kinds = plain.kinds_list(made.size, made.group, gauge)
            for lot in plain.all_lots_of(made.size):
                for told in plain.all_strings(made.size):
                    if told.phase % 2 == 0:
                        self.check_one(code, group, kinds, lot, told)

    def check_one(self, code, group, kinds, lot, told):
        if kinds[told.letters] not in ("group", "hidden"):
            self.assertIs(refused(self, Outside, moved_one, code, lot, told).string, told)
            return
        moved = moved_one(code, lot, told)
        may_be = any(all(told.letters[place] == letters[place] for place in lot) for letters in group)
        self.assertEqual(moved is not None, may_be)
        if moved is not None:
            self.check_moved(code, lot, told, moved)

    def test_moved_one_of_hidden_strings(self):
        seen = [0, 0]
        for made, gauge, code in self.all_codes(44, (4, 5)):
            group = plain.group_list(made.size, made.group)
            listed = Listed(made.size, made.group, gauge)
            flat = [row for pair in code.hidden for row in pair]
            for lot in plain.all_lots_of(made.size)[::3]:
                inside = [letters for letters in listed.commuting if plain.is_within(letters, lot)]
                for told in flat + [string(row.letters, 2) for row in flat] + made.group:
                    moved = moved_one(code, lot, told)
                    may_be = any(all(told.letters[place] == letters[place] for place in lot) for letters in group)
                    self.assertEqual(may_be, plain.commute_with_all(told.letters, inside))
                    seen[may_be] += 1
                    self.assertEqual(moved is not None, may_be)
                    if moved is not None:
                        self.check_moved(code, lot, told, moved)
        self.assertGreater(min(seen), 100)


class KnownTest(Checks):
    def test_five_places(self):
        code = Code(5, strings(FIVE))
        for lot in plain.all_lots_of(5):
            number = 2 if len(lot) > 2 else 0
            self.assertEqual(region(code, lot).number, number)
            self.check_moved_off(code, lot, number)
        self.assertIsNone(moved_one(code, (0, 1, 2), Pauli("XXXXX")))
        moved = moved_one(code, (0, 1), Pauli("-XXXXX"))
        self.check_moved(code, (0, 1), Pauli("-XXXXX"), moved)

    def test_gauge_strings_change_the_number(self):
        code = Code(4, strings("XXXX ZZZZ"), strings("XXII ZIZI"), [strings("XIXI ZZII")])
        # XIXI is hidden, XIIX dressed: it takes gauge strings to move it
        self.assertEqual((region(code, (0, 3)).number, bare_region(code, (0, 3)).number), (2, 0))
        self.assertEqual((region(code, (0, 2)).number, bare_region(code, (0, 2)).number), (1, 1))
        self.assertEqual(texts(region(code, (0, 2)).inside)[0].strip("-"), "XIXI")
        self.assertEqual(region(code, (1,)).number, 0)
        self.assertEqual(refused(self, Outside, moved_one, code, (), Pauli("XIIX")).string, Pauli("XIIX"))
        self.assertEqual(refused(self, Outside, moved_one, code, (), Pauli("XXII")).string, Pauli("XXII"))
        self.check_moved(code, (0,), Pauli("-XIXI"), moved_one(code, (0,), Pauli("-XIXI")))

    def test_signs_of_what_is_moved(self):
        for words, given, lot, wanted in (("-ZZI -IZZ", "ZII", (0,), ("-IZI", "IIZ")),
                                          ("-ZZI -IZZ", "-ZII", (0, 1), ("-IIZ",)),
                                          ("XX -ZZ", "YY", (0, 1), ("II",)), ("XX -ZZ", "-YY", (0, 1), ("-II",)),
                                          ("-XX ZZ", "iI", (), ())):
            if wanted:
                moved = moved_one(Code(len(given.strip("-")), strings(words)), lot, Pauli(given))
                self.assertIn(texts([moved])[0], wanted)

    def test_codes_of_24_places(self):
        source = seeded(45)
        for rank, gauged in ((20, 0), (16, 3), (12, 4), (23, 1), (24, 0), (0, 0), (0, 24)):
            made = Made(source, 24, rank, gauged)
            code = Code(24, made.group, made.gauge)
            for many in (0, 1, 3, 8, 12, 16, 24):
                lot = tuple(sorted(source.sample(range(24), many)))
                rest = [place for place in range(24) if place not in lot]
                told, bare = region(code, lot), bare_region(code, lot)
                self.assertEqual(told.number + bare_region(code, rest).number, 2 * made.kept)
                self.assertEqual(bare.number + region(code, rest).number, 2 * made.kept)
                self.check_inside(Region(min(told.number, 6), told.inside[:6]), code, lot, ("group", "gauge"), False)
                self.check_inside(Region(min(bare.number, 6), bare.inside[:6]), code, lot, ("group",), True)
                self.assertEqual((len(told.inside), len(bare.inside)), (told.number, bare.number))
                self.check_moved_off(code, lot, told.number)

    def test_known_codes_of_many_places(self):
        shor = Code(9, strings(SHOR))
        two = joined_codes(joined_codes(shor, shor), Code(6, strings("XXXXXX ZZZZZZ")))
        self.assertEqual((two.size, two.kept), (24, 6))
        self.assertEqual(region(two, (0, 4, 9, 13, 18)).number, 0)
        self.check_moved_off(two, (0, 4, 9, 13, 18), 0)
        self.assertEqual(region(two, (0, 1, 2)).number, 1)
        self.assertEqual(region(two, (0, 3, 6)).number, 1)
        self.assertEqual(region(two, (0, 1, 2, 3, 6)).number, 2)
        self.assertEqual(region(two, (18, 19)).number, 2)
        self.check_moved_off(two, [18, 23], 2)
        nested = within(Code(4, strings("XXXX ZZZZ"), strings("XXII ZIZI")), Code(5, strings(FIVE)))
        self.assertEqual(region(nested, (0, 5, 6, 10, 15)).number, 0)
        self.check_moved_off(nested, (0, 1, 5, 6, 10, 15), 0)


class ErrorsTest(Checks):
    def test_values_that_are_no_lots(self):
        for size, words in ((2, "ZZ"), (3, "ZZI IZZ"), (5, FIVE)):
            code = Code(size, strings(words))
            for lot in plain.bad_lots(size):
                for call in (region, bare_region, moved_off):
                    self.assertIs(refused(self, BadLot, call, code, lot).lot, lot)
                # ahead of a wrong size, of no sign, and of a string outside
                for text in ("Z" * size, "Z" * (size + 1), "iX" + "I" * size, "i" + "Z" * size, "X" + "I" * (size - 1)):
                    self.assertIs(refused(self, BadLot, moved_one, code, lot, Pauli(text)).lot, lot)

    def test_errors_of_moved_one(self):
        code = Code(4, strings("XXXX ZZZZ"), strings("XXII ZIZI"))
        for lot in ((), (0,), [0, 1, 2, 3]):
            for text in ("XXX", "iXXX", "XIIII", "-iIIIII"):
                self.assertEqual(refused(self, Unlike, moved_one, code, lot, Pauli(text)).what, "size")
            for text in ("iXIII", "-iXXXX", "iXXII", "iIIII"):
                told = Pauli(text)
                error = refused(self, BadNumber, moved_one, code, lot, told)
                self.assertEqual(error.what, "sign")
                self.assertIs(error.number, told)
            for text in ("XIII", "-XYZI", "XXII", "-ZIZI", "XIIX", "-ZIIZ"):
                told = Pauli(text)
                self.assertIs(refused(self, Outside, moved_one, code, lot, told).string, told)
            for text in ("XIXI", "-ZZII", "XXXX", "-ZZZZ", "IIII", "-IIII"):
                self.assertIn(moved_one(code, lot, Pauli(text)).__class__, (Pauli, None.__class__))

    def test_what_is_defined_here(self):
        for name in ("Region", "Moved", "Inside", "region", "bare_region", "moved_off", "moved_one"):
            self.assertEqual(getattr(regions, name).__module__, "keptqubits.regions")
        made = Region(3, ["a"]), Moved(["b"]), Inside("c")
        self.assertEqual([vars(told) for told in made],
                         [{"number": 3, "inside": ("a",)}, {"strings": ("b",)}, {"string": "c"}])

    def test_equal_calls_give_equal_results_and_nothing_changes(self):
        code = Code(5, strings("XZZXI IXZZX"))
        kept, lot = dict(vars(code)), [0, 2, 3]
        for _ in range(2):
            found = [texts(region(code, lot).inside), texts(bare_region(code, lot).inside),
                     texts([moved_off(code, lot).string]), texts(moved_off(code, []).strings)]
            self.assertEqual(found, [texts(region(code, lot).inside), texts(bare_region(code, lot).inside),
                                     texts([moved_off(code, lot).string]), texts(moved_off(code, []).strings)])
        self.assertEqual((vars(code), lot), (kept, [0, 2, 3]))


if __name__ == "__main__":
    unittest.main()
