"""[29], [32], [33], [34], [35]: losses that are borne, and what mends them."""

import itertools
import re
import unittest

import plain
import standings
from plain import Listed, Made, refused, seeded, string, strings, texts
from standings import Standing

from keptqubits import losses
from keptqubits.codes import Code, joined_codes, within
from keptqubits.errors import BadLot, BadNumber, TooMany
from keptqubits.losses import Unborne, all_lots, borne, mender, shares
from keptqubits.paulis import Pauli, placed
from keptqubits.regions import Inside, moved_off, region

FIVE = "XZZXI IXZZX XIXZZ ZXIXZ"
STEANE = "IIIXXXX IXXIIXX XIXIXIX IIIZZZZ IZZIIZZ ZIZIZIZ"
SHOR = "ZZIIIIIII IZZIIIIII IIIZZIIII IIIIZZIII IIIIIIZZI IIIIIIIZZ XXXXXXIII IIIXXXXXX"

# values that are no integers from 0 on
NO_NUMBERS = (-1, -7, True, False, None, "0", "", 1.0, (1,), [0], b"1", {}, object())


def some_codes(seed, sizes, each=1):
    """Triples (Made, gauge strings, Code), the pairs told or found."""
    source = seeded(seed)
    for made, gauge in plain.some_made(seed, sizes, each):
        hidden = made.pairs if source.random() < 0.5 else None
        yield made, gauge, Code(made.size, made.group, gauge, hidden)


def gauged_twenty():
    """A code of 20 places with a gauged pair, whose strings that act have at least six letters other than I."""
    return within(Code(4, strings("XXXX ZZZZ"), strings("XXII ZIZI")), Code(5, strings(FIVE)))


class AllLotsTest(unittest.TestCase):
    def test_small_codes_against_all_strings(self):
        for made, gauge, code in some_codes(51, range(1, 5), 2):
            listed = Listed(made.size, made.group, gauge)
            told = all_lots(code)
            self.assertIs(told.__class__, tuple)
            self.assertTrue(all(number.__class__ is int for number in told))
            self.assertEqual(told, tuple(listed.number(lot) for lot in plain.all_lots_of(made.size)))

    def test_some_of_five_places(self):
        source = seeded(52)
        for rank, gauged in ((4, 0), (2, 1), (1, 2), (3, 1), (0, 0)):
            made = Made(source, 5, rank, gauged)
            listed = Listed(5, made.group, made.gauge)
            self.assertEqual(all_lots(Code(5, made.group, made.gauge)),
                             tuple(listed.number(lot) for lot in plain.all_lots_of(5)))

    def test_index_of_a_lot(self):
        # the places 0 and 2 are of the group alone: what is kept stands at the place 1, whose lot has the index 2
        self.assertEqual(all_lots(Code(3, strings("ZII IIX"))), (0, 0, 2, 2, 0, 0, 2, 2))
        self.assertEqual(all_lots(Code(3, strings("IZI IIX"))), (0, 2, 0, 2, 0, 2, 0, 2))
        self.assertEqual(all_lots(Code(2, strings("-ZZ"))), (0, 1, 1, 2))
        self.assertEqual(all_lots(Code(1, [])), (0, 2))
        self.assertEqual(all_lots(Code(4, strings("XXXX ZZZZ"), strings("XXII ZIZI")))[9], 2)
        self.assertEqual(all_lots(Code(2, strings("XX ZZ"))), (0, 0, 0, 0))

    def test_twelve_places(self):
        source = seeded(53)
        for (rank, gauged), (other_rank, other_gauged) in (((6, 0), (2, 0)), ((5, 0), (3, 2)), ((0, 0), (2, 3))):
            one, other = Made(source, 7, min(rank, 7), gauged), Made(source, 5, other_rank, other_gauged)
            code = Code(7, one.group, one.gauge)
            beside = Code(5, other.group, other.gauge)
            told = all_lots(joined_codes(code, beside))
            self.assertEqual(len(told), 4096)
            first, second = all_lots(code), all_lots(beside)
            self.assertEqual(told, tuple(first[index % 128] + second[index // 128] for index in range(4096)))
        made = Made(source, 12, 9, 1)
        code = Code(12, made.group, made.gauge)
        told = all_lots(code)
        for index in source.sample(range(4096), 60):
            lot = [place for place in range(12) if (index >> place) & 1]
            self.assertEqual(told[index], region(code, lot).number)

    def test_more_than_twelve_places(self):
        for size in (13, 14, 24):
            error = refused(self, TooMany, all_lots, Code(size, []))
            self.assertEqual((error.what, error.many, error.limit), ("size", size, 12))


class MenderTest(unittest.TestCase):
    def check_form(self, code, lot, text):
        """The lines of a text, which are all that [33], [58] and [59] ask of them."""
        self.assertIs(text.__class__, str)
        lines = text[:-1].split("\n") if text.endswith("\n") else text.split("\n") if text else []
        self.assertEqual(lines[:len(lot)], [f"fresh {place}" for place in lot])
        measured = []
        for line in lines[len(lot):]:
            found = re.fullmatch(r"measure (\S+) to ([a-z][a-z0-9]{0,11})", line)
            if found:
                self.assertGreater(placed(code.size, found[1]).weight, 0)
                self.assertNotIn(found[2], measured)
                measured.append(found[2])
            else:
                found = re.fullmatch(r"if (\S+(?: \+ \S+)*) then (\S+)", line)
                self.assertIsNotNone(found, line)
                self.assertLessEqual(set(found[1].split(" + ")), set(measured))
                self.assertTrue(plain.is_within(placed(code.size, found[2]).letters, lot))
        return lines

    def stored(self, code, source):
        """Strings that are sure of stored states: held, with twins, or with values of some hidden strings."""
        size = code.size
        group = [standings.held(row) for row in code.group.rows]
        yield group + [standings.times(standings.held(told), standings.held_letter(letter, size + index))
                       for index, pair in enumerate(code.hidden) for letter, told in zip("XZ", pair)]
        for _ in range(2):
            some = []
            for one, other in code.hidden:
                told = source.choice((one, other, string("I" * size, 1).times(one).times(other)))
                some.append(standings.held(string(told.letters, told.phase + source.choice((0, 2)))))
            yield group + some

    def with_gauge(self, code, source, rows):
        """The standing of these strings, and of some of the gauge besides."""
        now = Standing(rows)
        for told in source.sample(code.gauge, len(code.gauge)):
            known = standings.held(string(told.letters, source.choice((0, 2))))
            if all(standings.commute(known, row) for row in now.rows) and now.sign_of(known) is None:
                now = now.joined(known) if source.random() < 0.7 else now
        return now

    def damaged(self, source, now, lot):
        """The standing behind a loss of the lot: with nothing sure there, or with anything else."""
        for place in lot:
            now = now.lost(place)
            if source.random() < 0.5:
                known = standings.held_letter(source.choice("XYZ"), place)
                now = now.joined(known if source.random() < 0.5 else standings.minus(known))
        return now

    def check_mender(self, code, lot, source, choose=None):
        text = mender(code, lot)
        lines = self.check_form(code, lot, text)
        self.assertEqual(mender(code, lot), text)

        def read(word):
            return placed(code.size, word)

        for rows in self.stored(code, source):
            now = self.damaged(source, self.with_gauge(code, source, rows), lot)
            for behind in standings.ends(now, lines, read, choose):
                self.assertEqual([behind.sign_of(row) for row in rows], [1] * len(rows), (lot, text))

    def check_lot(self, code, lot, number, source, choose=None):
        if number:
            told = mender(code, lot)
            self.assertIs(told.__class__, Inside)
            self.assertEqual(told.string, moved_off(code, lot).string)
            self.assertIn(code.kind_of(told.string), ("dressed", "hidden"))
            self.assertIn(told.string.phase, (0, 2))
            self.assertTrue(plain.is_within(told.string.letters, lot))
        else:
            self.check_mender(code, lot, source, choose)

    def test_all_lots_of_small_codes(self):
        source = seeded(54)
        borne_lots = 0
        for made, gauge, code in some_codes(55, range(1, 5), 2):
            listed = Listed(made.size, made.group, gauge)
            for index, lot in enumerate(plain.all_lots_of(made.size)):
                number = listed.number(lot)
                borne_lots += bool(lot) and not number
                self.check_lot(code, list(lot) if index % 3 == 1 else lot, number, source)
        self.assertGreater(borne_lots, 150)

    def test_known_codes(self):
        source = seeded(56)
        for size, words, gauge in ((5, FIVE, ""), (4, "-XXXX -ZZZZ", "XXII ZIZI"), (4, "XXXX -ZZZZ", ""),
                                   (5, "YYIII -IYYII IIYYI IIIYY", "")):
            code = Code(size, strings(words), strings(gauge))
            for lot in plain.all_lots_of(size):
                if len(lot) <= 3 or size < 5:
                    self.check_lot(code, lot, region(code, lot).number, source)

    def test_lots_of_many_places(self):
        source = seeded(57)

        def one_of(told):
            return told[source.randrange(len(told))]

        shor = Code(9, strings(SHOR))
        for code, lots in ((gauged_twenty(), ((0, 5, 6, 10, 15), (0, 1, 2, 3, 4), (1, 7, 13, 18, 19))),
                           (joined_codes(joined_codes(shor, shor), Code(6, strings("-XXXXXX ZZZZZZ"))),
                            ((0, 4, 9, 13, 18), (3, 6), (8, 17, 23), (0, 1, 9, 10))),
                           (Code(7, strings(STEANE)), ((0, 1), (2, 6), (0, 1, 3), (5,)))):
            for lot in lots:
                self.check_lot(code, lot, region(code, lot).number, source)
                for _ in range(4):
                    self.check_lot(code, lot, region(code, lot).number, source, one_of)
        for _ in range(8):
            made = Made(source, 24, source.randrange(15, 24), source.randrange(2))
            code = Code(24, made.group, made.gauge)
            lot = tuple(sorted(source.sample(range(24), source.randrange(6))))
            for _ in range(3):
                self.check_lot(code, lot, region(code, lot).number, source, one_of)

    def test_empty_lot(self):
        for size, words in ((1, ""), (2, "XX ZZ"), (5, FIVE), (24, "Z" * 24)):
            code = Code(size, strings(words))
            for lot in ((), []):
                self.check_mender(code, lot, seeded(58))
                self.assertNotIn("fresh", mender(code, lot))

    def test_a_sign_of_the_group_is_brought_back(self):
        for words in ("-ZZI -IZZ", "ZZI -IZZ"):
            code = Code(3, strings(words), hidden=[strings("XXX -ZII")])
            for lot in ((0,), (1,), (2,)):
                self.assertIs(mender(code, lot).__class__, Inside)
        self.check_mender(Code(2, strings("-XX -ZZ")), (0, 1), seeded(59))
        self.check_mender(Code(3, strings("-Z" + "II -IXX -IZZ")), (0, 1), seeded(60))

    def test_bad_lots(self):
        for size, words in ((2, "ZZ"), (5, FIVE)):
            code = Code(size, strings(words))
            for lot in plain.bad_lots(size):
                self.assertIs(refused(self, BadLot, mender, code, lot).lot, lot)


class BorneTest(unittest.TestCase):
    def check_unborne(self, told, size, kinds, group, losses_told, errors_told):
        """That an Unborne shows what [34] asks of it, by the kinds of all strings."""
        self.assertIs(told.__class__, Unborne)
        self.assertIs(told.lot.__class__, tuple)
        self.assertEqual(len(told.lot), losses_told)
        self.assertEqual(list(told.lot), sorted(set(told.lot) & set(range(size))))
        for one in (told.error, told.other):
            self.assertIs(one.__class__, Pauli)
            self.assertEqual((one.size, one.phase % 2), (size, 0))
            outside = [place for place in range(size) if one.letters[place] != "I" and place not in told.lot]
            self.assertLessEqual(len(outside), errors_told)
        for row in group:
            self.assertEqual(told.error.commutes(row), told.other.commutes(row))
        if kinds is not None:
            self.assertIn(kinds[plain.letters_times(told.error.letters, told.other.letters)], ("hidden", "dressed"))

    def test_small_codes_against_all_lots(self):
        seen = [0, 0]
        for made, gauge, code in some_codes(61, range(1, 6)):
            listed = Listed(made.size, made.group, gauge)
            numbers = {lot: listed.number(lot) for lot in plain.all_lots_of(made.size)}
            for many, wrong in itertools.product(range(made.size + 1), repeat=2):
                told = borne(code, many, wrong)
                bears = not any(number for lot, number in numbers.items() if len(lot) <= many + 2 * wrong)
                seen[bears] += 1
                if bears:
                    self.assertIsNone(told)
                else:
                    self.check_unborne(told, made.size, listed.kinds, made.group, many, wrong)
                    again = borne(code, many, wrong)
                    self.assertEqual((again.lot, again.error, again.other), (told.lot, told.error, told.other))
        self.assertGreater(min(seen), 200)

    def test_small_codes_by_the_words_of_the_document(self):
        for made, gauge, code in some_codes(62, range(1, 4), 2):
            kinds = plain.kinds_list(made.size, made.group, gauge)
            for many, wrong in itertools.product(range(made.size + 1), repeat=2):
                self.assertEqual(borne(code, many, wrong) is None, self.is_borne(made, kinds, many, wrong))

    def is_borne(self, made, kinds, many, wrong):
        """Whether, for each lot, all strings with at most so many letters outside are told by their syndromes."""
        for lot in itertools.combinations(range(made.size), many):
            firsts = {}
            for letters in plain.all_letters(made.size):
                if sum(letter != "I" and place not in lot for place, letter in enumerate(letters)) <= wrong:
                    syndrome = tuple(plain.letters_commute(letters, row.letters) for row in made.group)
                    first = firsts.setdefault(syndrome, letters)
                    if kinds[plain.letters_times(first, letters)] not in ("group", "gauge"):
                        return False
        return True

    def test_known_codes(self):
        five, steane = Code(5, strings(FIVE)), Code(7, strings(STEANE))
        for code, pairs in ((five, ((0, 0), (1, 0), (2, 0), (0, 1))), (steane, ((0, 0), (1, 0), (2, 0), (0, 1))),
                            (Code(4, strings("XXXX ZZZZ")), ((0, 0), (1, 0))), (Code(3, strings("ZZI IZZ")), ((0, 0),)),
                            (Code(1, []), ((0, 0),))):
            for many, wrong in itertools.product(range(4), repeat=2):
                if many <= code.size and wrong <= code.size:
                    told = borne(code, many, wrong)
                    self.assertEqual(told is None, (many, wrong) in pairs)
                    if told is not None:
                        self.check_unborne(told, code.size, None, code.group.rows, many, wrong)
                        self.assertIn(code.kind_of(told.error.times(told.other)), ("hidden", "dressed"))
        # what keeps nothing bears all
        for many, wrong in itertools.product(range(3), repeat=2):
            self.assertIsNone(borne(Code(2, strings("XX ZZ")), many, wrong))
            self.assertIsNone(borne(Code(2, [], strings("XI ZI IX IZ")), many, wrong))

    def test_codes_of_many_places(self):
        twenty = gauged_twenty()
        for many, wrong in ((4, 0), (2, 1), (0, 2), (3, 0), (1, 1)):
            self.assertIsNone(borne(twenty, many, wrong))
        shor = Code(9, strings(SHOR))
        two = joined_codes(joined_codes(shor, shor), Code(6, strings("XXXXXX")))
        for many, wrong in ((1, 0), (4, 0), (2, 1), (0, 2), (3, 0), (0, 1)):
            told = borne(two, many, wrong)
            self.check_unborne(told, 24, None, two.group.rows, many, wrong)
            self.assertIn(two.kind_of(told.error.times(told.other)), ("hidden", "dressed"))
        self.assertIsNone(borne(two, 0, 0))
        nested = within(Code(3, strings("ZZI IZZ")), Code(7, strings(STEANE)))
        self.assertIsNone(borne(nested, 2, 0))
        self.assertIsNone(borne(nested, 0, 1))
        self.check_unborne(borne(nested, 3, 0), 21, None, nested.group.rows, 3, 0)
        self.check_unborne(borne(nested, 1, 1), 21, None, nested.group.rows, 1, 1)

    def test_wrong_numbers(self):
        for code in (Code(2, strings("ZZ")), Code(3, strings("ZZI IZZ")), Code(2, strings("XX ZZ"))):
            wrong = NO_NUMBERS + (code.size + 1, 10 ** 30)
            for number in wrong:
                for other in (0, code.size) + wrong:
                    error = refused(self, BadNumber, borne, code, number, other)
                    self.assertEqual(error.what, "losses")
                    self.assertIs(error.number, number)
                for other in (0, 1, code.size):
                    error = refused(self, BadNumber, borne, code, other, number)
                    self.assertEqual(error.what, "errors")
                    self.assertIs(error.number, number)


class SharesTest(unittest.TestCase):
    def test_all_lots_of_small_codes(self):
        seen = {"none": 0, "some": 0, "all": 0}
        for made, gauge, code in some_codes(63, range(1, 6)):
            if made.kept == 0:
                continue
            listed = Listed(made.size, made.group, gauge)
            lots = plain.all_lots_of(made.size)
            told = []
            for index, lot in enumerate(lots):
                number, bare = listed.number(lot), listed.bare_number(lot)
                wanted = "none" if number == 0 else "all" if bare == 2 * made.kept else "some"
                told.append(shares(code, lot if index % 2 else list(lot)))
                self.assertEqual(told[-1], wanted)
                seen[wanted] += 1
            # a lot tells all just if its rest tells none
            for index in range(len(lots)):
                self.assertEqual(told[index] == "all", told[len(lots) - 1 - index] == "none")
        self.assertGreater(min(seen.values()), 50)

    def test_known_codes(self):
        five = Code(5, strings(FIVE))
        for lot in plain.all_lots_of(5):
            self.assertEqual(shares(five, lot), "none" if len(lot) < 3 else "all")
        self.assertEqual(shares(Code(3, strings("ZZI IZZ")), (0, 1)), "some")
        gauged = Code(4, strings("XXXX ZZZZ"), strings("XXII ZIZI"))
        # the number of this lot is 2, but its bare number is 0
        self.assertEqual(shares(gauged, (0, 3)), "some")
        self.assertEqual(shares(gauged, (0, 1, 2)), "all")
        self.assertEqual(shares(gauged, (2,)), "none")

    def test_24_places(self):
        source = seeded(64)
        for rank, gauged in ((23, 0), (20, 2), (8, 8)):
            made = Made(source, 24, rank, gauged)
            code = Code(24, made.group, made.gauge)
            self.assertEqual((shares(code, ()), shares(code, tuple(range(24)))), ("none", "all"))
            for many in (2, 12, 22):
                lot = sorted(source.sample(range(24), many))
                rest = [place for place in range(24) if place not in lot]
                self.assertEqual(shares(code, lot) == "all", shares(code, rest) == "none")
                self.assertEqual(shares(code, lot) == "none", region(code, lot).number == 0)

    def test_errors(self):
        for code in (Code(2, strings("XX ZZ")), Code(2, [], strings("XI ZI IX IZ")), Code(2, strings("ZZ"))):
            for lot in plain.bad_lots(2):
                self.assertIs(refused(self, BadLot, shares, code, lot).lot, lot)
        for code in (Code(2, strings("XX ZZ")), Code(2, [], strings("XI ZI IX IZ"))):
            for lot in ((), [0], (0, 1)):
                error = refused(self, BadNumber, shares, code, lot)
                self.assertEqual((error.what, error.number), ("kept", 0))


class FormTest(unittest.TestCase):
    def test_what_is_defined_here(self):
        for name in ("Unborne", "all_lots", "mender", "borne", "shares"):
            self.assertEqual(getattr(losses, name).__module__, "keptqubits.losses")
        self.assertEqual(list(vars(Unborne([1], "a", "b")).items()), [("lot", (1,)), ("error", "a"), ("other", "b")])

    def test_nothing_changes(self):
        code, lot = Code(5, strings(FIVE)), [0, 3]
        kept = dict(vars(code))
        all_lots(code)
        mender(code, lot)
        borne(code, 1, 1)
        shares(code, lot)
        self.assertEqual((vars(code), lot), (kept, [0, 3]))
        self.assertEqual(texts(code.group.rows), texts(Code(5, strings(FIVE)).group.rows))


if __name__ == "__main__":
    unittest.main()
