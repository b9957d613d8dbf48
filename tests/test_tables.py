"""[39], [40], [41], [42], [43]: tables of mendings."""

import itertools
import unittest

import plain
from plain import Made, refused, seeded, string, strings
from sorttexts import some_text, text_lets

from keptqubits import tables
from keptqubits.codes import Code, joined_codes, within
from keptqubits.errors import BadNumber, TooMany, Unlike
from keptqubits.paulis import Pauli
from keptqubits.sorts import Sort, errors_of
from keptqubits.tables import Clash, Distance, Parted, distance, judged, lightest, parted

FIVE = "XZZXI IXZZX XIXZZ ZXIXZ"
STEANE = "IIIXXXX IXXIIXX XIXIXIX IIIZZZZ IZZIIZZ ZIZIZIZ"
EIGHT = "XXXXXXXX ZZZZZZZZ XXXXIIII XXIIXXII ZIZIZIZI"

# keys that are no syndromes of a code with two rows in its group
NO_KEYS = ((), (0,), (1,), (0, 0, 0), (1, 1, 0), (0, 2), (-1, 0), "00", "01", 0, 1, None, ((0, 1),), ("0", "1"))


class Known:
    """What is known of a code by lists of all strings."""

    def __init__(self, made, gauge, hidden=None):
        self.size = made.size
        self.code = Code(made.size, made.group, gauge, hidden)
        self.kinds = plain.kinds_list(made.size, made.group, gauge)
        self.letters = plain.all_letters(made.size)
        rows = [row.letters for row in self.code.group.rows]
        self.syndromes = {letters: tuple(int(not plain.letters_commute(letters, row)) for row in rows)
                          for letters in self.letters}

    def is_empty(self, one, other):
        """Whether the product of two strings is of the gauge."""
        return self.kinds[plain.letters_times(one, other)] in ("group", "gauge")

    def errors(self, text):
        """The letters of all errors of a sort, in order."""
        return [letters for letters in self.letters if text_lets(text, letters)]

    def is_led_right(self, table, letters):
        told = table.get(self.syndromes[letters])
        return self.is_empty(letters, told.letters if told else "I" * self.size)


def some_known(seed, sizes, each=1):
    source = seeded(seed)
    return [Known(made, gauge, source.choice((None, made.pairs, [pair[::-1] for pair in made.pairs])))
            for made, gauge in plain.some_made(seed, sizes, each)]


class Checks(unittest.TestCase):
    def check_string(self, told, letters):
        self.assertIs(told.__class__, Pauli)
        self.assertEqual((told.letters, told.phase), (letters, 0))


class PartedTest(Checks):
    def check_parted(self, known, text):
        """That parted tells what a list of all errors tells; whether they clash."""
        told = parted(known.code, Sort(known.size, text))
        errors = known.errors(text)
        firsts = {}
        for letters in errors:
            firsts.setdefault(known.syndromes[letters], letters)
        if all(known.is_empty(letters, firsts[known.syndromes[letters]]) for letters in errors):
            self.assertIs(told.__class__, Parted)
            self.assertIs(told.table.__class__, dict)
            self.assertEqual({key: one.letters for key, one in told.table.items()}, firsts)
            for key, one in told.table.items():
                self.assertIs(key.__class__, tuple)
                self.check_string(one, firsts[key])
            self.assertIsNone(judged(known.code, told.table, Sort(known.size, text)))
            return False
        self.assertIs(told.__class__, Clash)
        one, other = told.error.letters, told.other.letters
        self.check_string(told.error, one)
        self.check_string(told.other, other)
        self.assertIn(one, errors)
        self.assertIn(other, errors)
        self.assertLess(one, other)
        self.assertEqual(known.syndromes[one], known.syndromes[other])
        self.assertFalse(known.is_empty(one, other))
        again = parted(known.code, Sort(known.size, text))
        self.assertEqual((again.error, again.other), (told.error, told.other))
        return True

    def test_random_sorts(self):
        source = seeded(81)
        seen = [0, 0]
        for known in some_known(82, range(1, 5)):
            for _ in range(6):
                seen[self.check_parted(known, some_text(source, known.size))] += 1
            for text in ("", "weight 0", "weight 1", "letters X", "letters Z\nweight 1", "near", f"run {known.size - 1}",
                         f"weight {known.size // 2}"):
                seen[self.check_parted(known, text)] += 1
        self.assertGreater(min(seen), 100)

    def test_known_codes(self):
        five = Code(5, strings(FIVE))
        told = parted(five, Sort(5, "weight 1"))
        self.assertEqual(len(told.table), 16)
        self.assertEqual({one.weight for one in told.table.values()}, {0, 1})
        self.assertIs(parted(five, Sort(5, "weight 2")).__class__, Clash)
        three = Code(3, strings("ZZI -IZZ"))
        told = parted(three, Sort(3, "letters X\nweight 1"))
        # the rows of its group are ZIZ and IZZ
        self.assertEqual({key: one.letters for key, one in told.table.items()},
                         {(0, 0): "III", (1, 1): "IIX", (0, 1): "IXI", (1, 0): "XII"})
        told = parted(three, Sort(3, "within 1\nletters Z"))
        self.assertEqual((told.error.letters, told.other.letters), ("III", "IZI"))
        # in a code with gauge strings, errors that are alike up to these do not clash
        gauged = Code(4, strings("XXXX ZZZZ"), strings("XXII ZIZI"))
        self.assertIs(parted(gauged, Sort(4, "within 0 1\nweight 1\nletters X")).__class__, Parted)
        self.assertIs(parted(Code(4, strings("XXXX ZZZZ")), Sort(4, "within 0 1\nweight 1\nletters X")).__class__, Clash)

    def test_many_places(self):
        nested = within(Code(4, strings("XXXX ZZZZ"), strings("XXII ZIZI")), Code(5, strings(FIVE)))
        told = parted(nested, Sort(20, "weight 2"))
        self.assertIs(told.__class__, Parted)
        self.assertIsNone(judged(nested, told.table, Sort(20, "weight 2")))
        self.assertEqual(len(told.table), len({nested.syndrome_of(one) for one in errors_of(Sort(20, "weight 2"))}))
        run = Code(24, [string("I" * place + "ZZ" + "I" * (22 - place)) for place in range(23)])
        self.assertIs(parted(run, Sort(24, "letters X\nrun 11")).__class__, Parted)
        self.assertIs(parted(run, Sort(24, "letters X\nrun 5\nnear 0-4 2-5")).__class__, Parted)
        told = parted(run, Sort(24, "letters XZ\nrun 2"))
        self.assertEqual(run.kind_of(told.error.times(told.other)), "hidden")

    def test_errors(self):
        five = Code(5, strings(FIVE))
        for size in (4, 6, 24):
            # a sort of too many errors, too
            self.assertEqual(refused(self, Unlike, parted, five, Sort(size, "")).what, "size")
            self.assertEqual(refused(self, Unlike, parted, five, Sort(size, "weight 1")).what, "size")
        error = refused(self, TooMany, parted, Code(8, []), Sort(8, ""))
        self.assertEqual((error.what, error.many, error.limit), ("errors", 4 ** 8, 20000))


class JudgedTest(Checks):
    def check_judged(self, known, table, text):
        told = judged(known.code, table, Sort(known.size, text))
        wrong = [letters for letters in known.errors(text) if not known.is_led_right(table, letters)]
        if wrong:
            self.check_string(told, wrong[0])
        else:
            self.assertIsNone(told)
        return bool(wrong)

    def tables(self, source, known):
        """Tables with all, some and no syndromes, with strings of any sign and any syndrome."""
        right = {}
        for letters in source.sample(known.letters, len(known.letters)):
            right.setdefault(known.syndromes[letters], string(letters, source.choice((0, 2))))
        yield {}
        yield right
        yield {key: told for key, told in right.items() if source.random() < 0.5}
        yield {key: string(source.choice(known.letters), source.choice((0, 2))) for key in right}
        yield lightest(known.code)

    def test_random_tables(self):
        source = seeded(83)
        seen = [0, 0]
        for known in some_known(84, range(1, 5)):
            for table in self.tables(source, known):
                for text in ("weight 0", "weight 1", "letters X", "", some_text(source, known.size)):
                    seen[self.check_judged(known, table, text)] += 1
        self.assertGreater(min(seen), 100)

    def test_what_a_good_table_is_told(self):
        five = Code(5, strings(FIVE))
        table = lightest(five)
        self.assertIsNone(judged(five, table, Sort(5, "weight 1")))
        self.check_string(judged(five, table, Sort(5, "weight 2")), "IIIXX")
        minus = {key: string(told.letters, 2) for key, told in table.items()}
        self.assertIsNone(judged(five, minus, Sort(5, "weight 1")))
        # a missing syndrome stands for I: the first error with this syndrome is led wrong
        for key, told in table.items():
            some = {other: table[other] for other in table if other != key}
            if told.weight:
                self.check_string(judged(five, some, Sort(5, "weight 1")), told.letters)
            else:
                self.assertIsNone(judged(five, some, Sort(5, "weight 1")))

    def test_a_string_for_all_zeros(self):
        three = Code(3, strings("ZZI IZZ"))
        zeros = {(0, 0): Pauli("XXX")}
        self.check_string(judged(three, zeros, Sort(3, "weight 0")), "III")
        self.assertIsNone(judged(three, {(0, 0): Pauli("-ZZI")}, Sort(3, "weight 0")))
        self.check_string(judged(three, {(0, 0): Pauli("-ZII")}, Sort(3, "weight 0")), "III")

    def test_strings_with_another_syndrome(self):
        three = Code(3, strings("ZZI IZZ"))
        table = lightest(three)
        for key in table:
            for other in table:
                wrong = {**table, key: table[other]}
                told = judged(three, wrong, Sort(3, "letters X\nweight 1"))
                if key == other:
                    self.assertIsNone(told)
                else:
                    self.check_string(told, table[key].letters)

    def test_keys_that_are_no_syndromes(self):
        three = Code(3, strings("ZZI IZZ"))
        sort = Sort(3, "letters X\nweight 1")
        extra = {key: Pauli("YYY") for key in NO_KEYS}
        self.assertIsNone(judged(three, {**lightest(three), **extra}, sort))
        self.check_string(judged(three, extra, sort), "IIX")

    def test_errors(self):
        five = Code(5, strings(FIVE))
        good, bad = lightest(five), {(0, 0, 0, 0): Pauli("ZZZZ")}
        for size in (4, 6, 24):
            for table in ({}, good, bad):
                self.assertEqual(refused(self, Unlike, judged, five, table, Sort(size, "")).what, "size")
        for wrong in (bad, {**good, (7,): Pauli("I" * 6)}, {**good, "none": Pauli("I")}, {(1, 1, 0, 1): Pauli("IIIIII")}):
            self.assertEqual(refused(self, Unlike, judged, five, wrong, Sort(5, "weight 0")).what, "size")
        eight = Code(8, strings("ZZZZZZZZ"))
        error = refused(self, TooMany, judged, eight, {}, Sort(8, ""))
        self.assertEqual((error.what, error.many, error.limit), ("errors", 4 ** 8, 20000))
        # the sizes go ahead
        refused(self, Unlike, judged, eight, {(0,): Pauli("Z")}, Sort(8, ""))
        refused(self, Unlike, judged, eight, {(5,): Pauli("Z")}, Sort(8, ""))
        refused(self, Unlike, judged, eight, {}, Sort(9, ""))

    def test_nothing_changes(self):
        three = Code(3, strings("ZZI IZZ"))
        table = lightest(three)
        before, code = dict(table), dict(vars(three))
        judged(three, table, Sort(3, "weight 1"))
        parted(three, Sort(3, "weight 1"))
        distance(three)
        self.assertEqual((table, vars(three)), (before, code))
        given = {(0,): Pauli("Z")}
        told = Parted(given)
        given.clear()
        self.assertEqual(told.table, {(0,): Pauli("Z")})


class DistanceTest(Checks):
    def check_distance(self, code, number, letters):
        told = distance(code)
        self.assertIs(told.__class__, Distance)
        self.assertIs(told.number.__class__, int)
        self.assertEqual((told.number, told.string.letters), (number, letters))
        self.check_string(told.string, letters)

    def test_small_codes_by_all_strings(self):
        for known in some_known(85, range(1, 6)):
            acting = [letters for letters in known.letters if known.kinds[letters] in ("hidden", "dressed")]
            if acting:
                first = min(acting, key=lambda letters: (len(letters) - letters.count("I"), letters))
                self.check_distance(known.code, len(first) - first.count("I"), first)
            else:
                error = refused(self, BadNumber, distance, known.code)
                self.assertEqual((error.what, error.number), ("kept", 0))

    def test_distance_and_parted(self):
        for known in some_known(86, range(1, 5)):
            if known.code.kept and not known.code.gauge:
                number = distance(known.code).number
                for most in range(known.size + 1):
                    told = parted(known.code, Sort(known.size, f"weight {most}"))
                    self.assertEqual(told.__class__ is Parted, number >= 2 * most + 1)

    def test_known_codes(self):
        for size, words, number, letters in ((5, FIVE, 3, "IIXYX"), (7, STEANE, 3, "IIXIXXI"), (1, "", 1, "X"),
                                             (3, "ZZI IZZ", 1, "IIZ"), (4, "XXXX ZZZZ", 2, "IIXX"),
                                             (8, EIGHT, 2, "IIIIIIZZ")):
            code = Code(size, strings(words))
            self.assertEqual(self.first_of_weight(code, number), letters)
            self.check_distance(code, number, letters)

    def first_of_weight(self, code, weight):
        for letters in plain.all_letters(code.size):
            if len(letters) - letters.count("I") == weight:
                if code.kind_of(string(letters)) in ("hidden", "dressed"):
                    return letters

    def test_the_hidden_pairs_do_not_matter(self):
        for one, other in itertools.permutations("XYZ", 2):
            self.check_distance(Code(1, [], (), [strings(f"{one} {other}")]), 1, "X")
        for words in ("ZZI XII IZZ IIX", "IZZ IIX ZZI XII", "XII ZZI IIX IZZ", "IIX IZZ XII ZZI"):
            told = strings(words)
            self.check_distance(Code(3, strings("XXX"), (), [told[:2], told[2:]]), 1, "IIX")

    def test_gauge_strings_do_not_count(self):
        # IIXX is of the gauge: the first string that changes what is stored comes behind it
        self.check_distance(Code(4, strings("XXXX ZZZZ"), strings("XXII ZIZI")), 2, "IIYY")
        self.check_distance(Code(2, [], strings("XI ZI")), 1, "IX")
        self.check_distance(Code(2, [], strings("IX IZ")), 1, "XI")

    def test_many_places(self):
        nested = within(Code(3, strings("ZZI IZZ")), Code(7, strings(STEANE)))
        told = distance(nested)
        self.assertEqual((told.number, told.string.phase), (3, 0))
        self.assertEqual(nested.kind_of(told.string), "hidden")
        # that of the last block is the first one
        self.assertEqual(told.string.letters[:14], "I" * 14)
        steane = Code(7, strings(STEANE))
        self.check_string(distance(joined_codes(nested, Code(3, strings("ZZI IZZ")))).string, "I" * 23 + "Z")
        three = joined_codes(joined_codes(steane, steane), joined_codes(steane, Code(3, strings("ZZZ XXI -IXX"))))
        told = distance(three)
        self.assertEqual((three.size, three.kept, told.number), (24, 3, 3))
        small = distance(steane).string.letters
        self.assertEqual(told.string.letters, "I" * 14 + small + "III")
        self.check_distance(Code(24, [Pauli("X" * 24), Pauli("Z" * 24)]), 2, "I" * 22 + "XX")
        self.check_distance(Code(24, [Pauli("Z" * 24)]), 1, "I" * 23 + "Z")
        gauged = Code(4, strings("XXXX ZZZZ"), strings("XXII ZIZI"))
        self.check_distance(joined_codes(joined_codes(Code(13, [Pauli("Y" * 13)], [Pauli("Y" * 13)]), Code(7, strings(STEANE))),
                                         gauged), 1, "I" * 12 + "Y" + "I" * 11)
        six = gauged
        for _ in range(5):
            six = joined_codes(six, gauged)
        self.assertEqual((six.size, six.kept, six.gauged), (24, 6, 6))
        self.check_distance(six, 2, "I" * 20 + "IIYY")

    def test_nothing_is_kept(self):
        for code in (Code(2, strings("XX ZZ")), Code(1, strings("-Y")), Code(1, [], strings("X Z")),
                     Code(24, [plain.single(24, place, "Z") for place in range(24)])):
            error = refused(self, BadNumber, distance, code)
            self.assertEqual((error.what, error.number), ("kept", 0))


class LightestTest(Checks):
    def check_lightest(self, code, syndromes):
        told = lightest(code)
        self.assertIs(told.__class__, dict)
        firsts = {}
        for letters in sorted(syndromes, key=lambda letters: (len(letters) - letters.count("I"), letters)):
            firsts.setdefault(syndromes[letters], letters)
        self.assertEqual({key: one.letters for key, one in told.items()}, firsts)
        self.assertEqual(len(told), 2 ** code.group.rank)
        for key, one in told.items():
            self.assertTrue(key.__class__ is tuple and all(bit.__class__ is int for bit in key))
            self.check_string(one, firsts[key])

    def test_small_codes_by_all_strings(self):
        for known in some_known(87, range(1, 6)):
            self.check_lightest(known.code, known.syndromes)

    def test_seven_and_eight_places(self):
        for size, words in ((7, STEANE), (8, EIGHT)):
            code = Code(size, strings(words))
            rows = [row.letters for row in code.group.rows]
            self.check_lightest(code, {letters: tuple(int(not plain.letters_commute(letters, row)) for row in rows)
                                       for letters in plain.all_letters(size)})

    def test_full_rank_and_rank_0(self):
        self.assertEqual(lightest(Code(3, [])), {(): Pauli("III")})
        told = lightest(Code(8, [plain.single(8, place, "Z") for place in range(8)]))
        self.assertEqual(len(told), 256)
        self.assertEqual(told[(1,) * 8], Pauli("X" * 8))

    def test_a_new_dict_each_time(self):
        code = Code(3, strings("ZZI IZZ"))
        told = lightest(code)
        told.clear()
        self.assertEqual(len(lightest(code)), 4)


class FormTest(unittest.TestCase):
    def test_what_is_defined_here(self):
        for name in ("Parted", "Clash", "Distance", "parted", "judged", "distance", "lightest"):
            self.assertEqual(getattr(tables, name).__module__, "keptqubits.tables")
        self.assertEqual(list(vars(Parted({(1,): "a"})).items()), [("table", {(1,): "a"})])
        self.assertEqual(list(vars(Clash("a", "b")).items()), [("error", "a"), ("other", "b")])
        self.assertEqual(list(vars(Distance(2, "a")).items()), [("number", 2), ("string", "a")])


if __name__ == "__main__":
    unittest.main()
