"""[12], [13], [14], [15], [16]: groups of strings that commute."""

import itertools
import unittest

import plain
from plain import Made, NO_SIZES, seeded, string, strings, texts

from keptqubits import groups
from keptqubits.errors import Anticommute, BadNumber, MinusOne, Unlike
from keptqubits.groups import Group, commutant, joined_group
from keptqubits.paulis import Pauli


def random_groups(seed, sizes, many):
    """Pairs of what made a group, and strings that make it, some of them products of others."""
    source = seeded(seed)
    for size in sizes:
        for rank in range(size + 1):
            for extra in range(many):
                made = Made(source, size, rank)
                yield made, plain.mixed(source, size, made.group, rank + extra)


class TableTest(unittest.TestCase):
    def check_rows(self, group, size, rank):
        self.assertIs(group.__class__, Group)
        self.assertEqual((group.size, group.rank), (size, rank))
        self.assertIs(group.rows.__class__, tuple)
        self.assertEqual(len(group.rows), rank)
        for row in group.rows:
            self.assertIs(row.__class__, Pauli)
            self.assertIn(row.phase, (0, 2))
        self.assertTrue(plain.is_reduced(group.rows), texts(group.rows))

    def test_small_groups_against_all_products(self):
        for made, given in random_groups(1, range(1, 7), 4):
            group = Group(made.size, given)
            self.check_rows(group, made.size, made.rank)
            listed = plain.group_list(made.size, given)
            self.assertEqual(len(listed), 2 ** made.rank)
            for row in group.rows:
                self.assertEqual(listed.get(row.letters), 1 - row.phase)
            self.assertEqual(plain.group_list(made.size, group.rows), listed)

    def test_large_groups(self):
        source = seeded(2)
        for size, rank in ((23, 0), (23, 1), (23, 12), (23, 22), (23, 23), (24, 7), (24, 23), (24, 24)):
            made = Made(source, size, rank)
            group = Group(size, plain.mixed(source, size, made.group, rank + 5))
            self.check_rows(group, size, rank)
            for row in group.rows:
                self.assertEqual(made.sign_of(row), 1)

    def test_known_tables(self):
        five = Group(5, strings("XZZXI IXZZX XIXZZ ZXIXZ"))
        self.assertEqual(texts(five.rows), ["YZIZY", "IXZZX", "ZZXIX", "ZIZYY"])
        self.assertEqual(texts(Group(2, strings("YY -ZZ")).rows), ["XX", "-ZZ"])
        self.assertEqual(texts(Group(2, strings("ZZ XX")).rows), ["XX", "ZZ"])
        self.assertEqual(texts(Group(3, strings("ZIZ IZZ XXX")).rows), ["XXX", "ZIZ", "IZZ"])
        self.assertEqual(texts(Group(3, strings("-IIZ IZZ -ZZI")).rows), ["ZII", "-IZI", "-IIZ"])
        self.assertEqual(texts(Group(1, strings("-Y")).rows), ["-Y"])

    def test_no_strings(self):
        for size in (1, 2, 23, 24):
            for given in ([], (), [Pauli("I" * size)], [Pauli("I" * size)] * 3):
                group = Group(size, given)
                self.check_rows(group, size, 0)
                self.assertEqual(group.rows, ())
                self.assertEqual(group.syndrome_of(Pauli("Y" * size)), ())
                self.assertEqual(group.sign_of(Pauli("I" * size)), 1)
                self.assertEqual(group.sign_of(Pauli("-" + "I" * size)), -1)
                self.assertIsNone(group.sign_of(Pauli("X" * size)))

    def test_strings_told_twice_and_products(self):
        wanted = Group(3, strings("XXI -ZZI"))
        self.assertEqual(wanted.rank, 2)
        for words in ("XXI XXI -ZZI", "-ZZI XXI -ZZI III", "YYI XXI", "III XXI YYI -ZZI YYI"):
            self.assertEqual(Group(3, strings(words)), wanted)
        one, other = strings("XXII -ZZII")
        group = Group(4, [one, other, one.times(other), one])
        self.assertEqual(group, Group(4, [one, other]))
        self.assertEqual(group.rank, 2)

    def test_the_strings_may_be_a_tuple_and_change_behind(self):
        given = strings("XX ZZ")
        group = Group(2, given)
        given.clear()
        self.assertEqual(texts(group.rows), ["XX", "ZZ"])
        self.assertEqual(Group(2, tuple(strings("XX ZZ"))), group)

    def test_what_is_defined_here(self):
        for name in ("Group", "commutant", "joined_group"):
            self.assertEqual(getattr(groups, name).__module__, "keptqubits.groups")
        for name in ("sign_of", "syndrome_of", "__eq__", "__init__"):
            self.assertIn(name, vars(Group))


class AskedTest(unittest.TestCase):
    def test_sign_of_all_strings(self):
        for made, given in random_groups(3, range(1, 5), 2):
            group = Group(made.size, given)
            listed = plain.group_list(made.size, given)
            for told in plain.all_strings(made.size):
                sign = listed.get(told.letters)
                wanted = None if sign is None or told.phase % 2 else sign * (1 - told.phase)
                found = group.sign_of(told)
                self.assertEqual(found, wanted)
                self.assertIn(found.__class__, (int, None.__class__))

    def test_syndrome_of_all_strings(self):
        for made, given in random_groups(4, range(1, 5), 2):
            group = Group(made.size, given)
            for told in plain.all_strings(made.size):
                wanted = tuple(int(not told.commutes(row)) for row in group.rows)
                found = group.syndrome_of(told)
                self.assertEqual(found, wanted)
                self.assertIs(found.__class__, tuple)
                self.assertTrue(all(bit.__class__ is int for bit in found))

    def test_large_ones(self):
        source = seeded(5)
        for size, rank in ((23, 11), (24, 20), (24, 24)):
            made = Made(source, size, rank)
            group = Group(size, made.group)
            for _ in range(60):
                told = plain.product(size, source.sample(made.group, source.randrange(rank)))
                turned = string("I" * size, source.randrange(4)).times(told)
                self.assertEqual(group.sign_of(turned), made.sign_of(turned))
                self.assertEqual(group.sign_of(turned) is None, turned.phase % 2 == 1)
                other = string("".join(source.choice("IXYZ") for _ in range(size)), source.randrange(4))
                self.assertEqual(group.sign_of(other), made.sign_of(other))
                self.assertEqual(group.syndrome_of(other), tuple(int(not other.commutes(row)) for row in group.rows))
                self.assertEqual(group.syndrome_of(told), (0,) * rank)

    def test_known_signs(self):
        group = Group(2, strings("XX ZZ"))
        wanted = {"XX": 1, "ZZ": 1, "YY": -1, "-YY": 1, "II": 1, "-II": -1, "iII": None, "-iXX": None, "XI": None,
                  "XY": None, "ZX": None, "-XX": -1}
        for text, sign in wanted.items():
            self.assertEqual(group.sign_of(Pauli(text)), sign, text)

    def test_unlike_sizes(self):
        for size in (1, 2, 3, 24):
            group = Group(size, [Pauli("Z" * size)])
            for other in (size - 1, size + 1):
                if other:
                    for head in plain.HEADS:
                        for call in (group.sign_of, group.syndrome_of):
                            with self.assertRaises(Unlike) as caught:
                                call(Pauli(head + "Z" * other))
                            self.assertEqual(caught.exception.what, "size")


class EqualTest(unittest.TestCase):
    def test_made_by_other_strings(self):
        source = seeded(6)
        for made, given in random_groups(7, range(1, 6), 3):
            self.assertEqual(Group(made.size, given), Group(made.size, made.group))
            self.assertEqual(Group(made.size, plain.mixed(source, made.size, given, 9)), Group(made.size, given))
            self.assertFalse(Group(made.size, given) != Group(made.size, made.group))

    def test_one_sign_turned_or_one_left_out(self):
        for made, given in random_groups(8, range(1, 6), 1):
            group = Group(made.size, given)
            for at, row in enumerate(made.group):
                turned = list(made.group)
                turned[at] = string(row.letters, row.phase + 2)
                self.assertFalse(group == Group(made.size, turned))
                self.assertTrue(group != Group(made.size, turned))
                self.assertNotEqual(group, Group(made.size, made.group[:at] + made.group[at + 1:]))

    def test_other_sizes_and_kinds(self):
        group = Group(2, strings("ZZ"))
        self.assertNotEqual(Group(1, []), Group(2, []))
        self.assertNotEqual(group, Group(3, strings("ZZI")))
        for other in (None, 2, group.rows, (2, group.rows), Pauli("ZZ"), "ZZ", object()):
            self.assertIs(group == other, False)
            self.assertIs(other == group, False)

    def test_told_again_and_unchanged(self):
        group = Group(3, strings("XXI ZZI"))
        kept = dict(vars(group))
        for told in plain.all_strings(3)[::7]:
            self.assertEqual(group.sign_of(told), group.sign_of(told))
            group.syndrome_of(told)
        self.assertEqual(texts(commutant(group)), texts(commutant(group)))
        joined_group(group, Group(3, strings("IIX")))
        self.assertEqual(vars(group), kept)


class ErrorsTest(unittest.TestCase):
    def refused(self, error, size, given):
        with self.assertRaises(error) as caught:
            Group(size, given)
        self.assertIs(caught.exception.__class__, error)
        return caught.exception

    def test_sizes(self):
        wrong = [strings("X"), [], strings("iXX"), strings("X Z"), strings("-I")]
        for size in NO_SIZES:
            for given in wrong:
                error = self.refused(BadNumber, size, given)
                self.assertEqual(error.what, "size")
                self.assertIs(error.number, size)

    def test_unlike_sizes(self):
        # also where a string without a sign, or one that anticommutes, or a minus, stands ahead
        for words in ("XX X", "X", "XXX", "iXX ZZ ZZZ", "XI ZI X", "-II X", "iX XX", "XX ZZ ZZI"):
            self.assertEqual(self.refused(Unlike, 2, strings(words)).what, "size")

    def test_signs(self):
        for words, at in (("iXX", 0), ("XX -iZZ iXX", 1), ("XI ZI iII", 2), ("-II iII -iII", 1), ("XX iXX", 1)):
            given = strings(words)
            error = self.refused(BadNumber, 2, given)
            self.assertEqual(error.what, "sign")
            self.assertIs(error.number, given[at])

    def test_anticommute_least_then_least(self):
        for words, one, other in (("X Z", 0, 1), ("X X Z", 0, 2), ("X Z Z", 0, 1), ("I X Y", 1, 2), ("-X -Y Z", 0, 1)):
            error = self.refused(Anticommute, 1, strings(words))
            self.assertEqual((error.one, error.other), (one, other))
        # place 4 is the first that anticommutes with one ahead of it: with those at 1 and at 3
        error = self.refused(Anticommute, 2, strings("ZI IX -ZX IX XZ ZZ"))
        self.assertEqual((error.one, error.other), (0, 4))
        error = self.refused(Anticommute, 3, strings("IIZ ZZI IZZ ZZI IXI XII"))
        self.assertEqual((error.one, error.other), (1, 4))

    def test_anticommute_of_random_strings(self):
        source = seeded(9)
        seen = 0
        for _ in range(400):
            size = source.randrange(1, 5)
            given = [string("".join(source.choice("IIXYZ") for _ in range(size))) for _ in range(source.randrange(1, 6))]
            pairs = [(j, i) for j in range(len(given)) for i in range(j) if not given[i].commutes(given[j])]
            if pairs:
                seen += 1
                error = self.refused(Anticommute, size, given)
                self.assertEqual((error.other, error.one), min(pairs))
        self.assertGreater(seen, 100)

    def test_anticommute_ahead_of_minus(self):
        error = self.refused(Anticommute, 1, strings("-I X Z"))
        self.assertEqual((error.one, error.other), (1, 2))
        self.refused(Anticommute, 2, strings("XX -XX ZI"))

    def test_minus_one(self):
        for size, words, wanted in (
                (1, "-I", (0,)), (2, "-II", (0,)), (2, "XX -II ZZ", (1,)), (2, "XX ZZ YY", (0, 1, 2)),
                (2, "XX -XX", (0, 1)), (2, "XX XX -XX", (0, 2)), (2, "XX ZZ XX -YY ZZ YY", (0, 1, 5)),
                (3, "ZII IZI IIZ -ZIZ", (0, 2, 3)), (3, "ZII IZI ZZI IIZ -ZZI -IIZ", (0, 1, 4)),
                (3, "III ZII III -ZII", (1, 3)), (3, "-ZII -IZI ZZI III IIZ -ZZZ", (0, 1, 4, 5))):
            given = strings(words)
            error = self.refused(MinusOne, size, given)
            self.assertEqual(error.indices, wanted)
            self.assertIs(error.indices.__class__, tuple)

    def test_minus_one_of_random_strings(self):
        source = seeded(10)
        seen = 0
        for _ in range(300):
            made = Made(source, source.randrange(1, 6), 0)
            rank = source.randrange(1, made.size + 1)
            base = [made.image(place, "Z") for place in range(rank)]
            given = [string("I" * made.size, source.choice((0, 0, 0, 2))).times(
                plain.product(made.size, [row for row in base if source.random() < 0.5])) for _ in range(rank + 4)]
            wanted = self.first_minus(made.size, given)
            if wanted is None:
                self.assertEqual(plain.group_list(made.size, given),
                                 plain.group_list(made.size, Group(made.size, given).rows))
            else:
                seen += 1
                self.assertEqual(self.refused(MinusOne, made.size, given).indices, wanted)
        self.assertGreater(seen, 100)

    def first_minus(self, size, given):
        """The indexes of the first string that is -1 times a product of kept ones, by a list of all products."""
        products = {"I" * size: (0, ())}
        for index, told in enumerate(given):
            if told.letters in products:
                phase, indices = products[told.letters]
                if phase != told.phase:
                    return (*indices, index)
            else:
                for letters, (phase, indices) in list(products.items()):
                    new = string(letters, phase).times(told)
                    products[new.letters] = new.phase, (*indices, index)
        return None


class CommutantTest(unittest.TestCase):
    def test_against_all_strings(self):
        for made, given in random_groups(11, range(1, 5), 2):
            group = Group(made.size, given)
            told = commutant(group)
            self.assertIs(told.__class__, tuple)
            self.assertEqual(len(told), 2 * made.size - made.rank)
            self.assertTrue(plain.is_reduced(told))
            self.assertTrue(all(row.__class__ is Pauli and row.phase == 0 and row.size == made.size for row in told))
            commuting = {letters for letters in plain.all_letters(made.size)
                         if plain.commute_with_all(letters, [row.letters for row in given])}
            self.assertEqual(plain.span_list(made.size, told), commuting)

    def test_strings_of_the_group_commute_with_all_of_it(self):
        for made, given in random_groups(12, range(1, 5), 1):
            told = [row.letters for row in commutant(Group(made.size, given))]
            listed = plain.group_list(made.size, given)
            for letters in plain.all_letters(made.size):
                self.assertEqual(plain.commute_with_all(letters, told), letters in listed)

    def test_rank_0_and_full_rank(self):
        self.assertEqual(texts(commutant(Group(2, []))), ["XI", "IX", "ZI", "IZ"])
        self.assertEqual(texts(commutant(Group(2, strings("-XX -ZZ")))), ["XX", "ZZ"])
        self.assertEqual(texts(commutant(Group(1, strings("-Y")))), ["Y"])
        self.assertEqual(texts(commutant(Group(2, strings("-ZZ")))), ["XX", "ZI", "IZ"])

    def test_many_places(self):
        source = seeded(13)
        for size in (23, 24):
            for rank in (0, 1, 13, size - 1, size):
                made = Made(source, size, rank)
                told = commutant(Group(size, made.group))
                self.assertEqual(len(told), 2 * size - rank)
                self.assertTrue(plain.is_reduced(told))
                for row in told:
                    self.assertEqual(row.phase, 0)
                    self.assertTrue(all([row.commutes(string) for string in made.group]))


class JoinedTest(unittest.TestCase):
    def test_groups_that_commute(self):
        source = seeded(14)
        for made, given in random_groups(15, range(1, 6), 2):
            some = [row for row in made.group if source.random() < 0.6]
            others = [row for row in given if source.random() < 0.6]
            told = joined_group(Group(made.size, some), Group(made.size, others))
            self.assertIs(told.__class__, Group)
            self.assertEqual(told, Group(made.size, some + others))

    def test_unlike_sizes(self):
        # also with what anticommutes and contradicts
        for one, other in (("XX", "Z"), ("X", "ZZ"), ("X", "-XX")):
            with self.assertRaises(Unlike) as caught:
                joined_group(Group(len(one), strings(one)), Group(len(other.strip("-")), strings(other)))
            self.assertEqual(caught.exception.what, "size")

    def test_groups_that_anticommute(self):
        one, other = Group(3, strings("ZZI IZZ")), Group(3, strings("XXX IIX"))
        rows = [*one.rows, *other.rows]
        wanted = min((j, i) for j, i in itertools.product(range(4), repeat=2) if i < j and not rows[i].commutes(rows[j]))
        with self.assertRaises(Anticommute) as caught:
            joined_group(one, other)
        self.assertEqual((caught.exception.other, caught.exception.one), wanted)
        with self.assertRaises(Anticommute) as caught:
            joined_group(Group(1, strings("X")), Group(1, strings("Z")))
        self.assertEqual((caught.exception.one, caught.exception.other), (0, 1))
        # ahead of what contradicts
        with self.assertRaises(Anticommute):
            joined_group(Group(2, strings("XI IX")), Group(2, strings("-XI IZ")))

    def test_groups_that_contradict(self):
        for size, one, other, wanted in ((1, "X", "-X", (0, 1)), (2, "XX ZZ", "YY", (0, 1, 2)),
                                         (3, "ZII IZI IIZ", "-ZIZ IZI", (0, 2, 3)),
                                         (3, "-XXI ZZI", "IIZ -YYI", (0, 1, 2))):
            first, second = Group(size, strings(one)), Group(size, strings(other))
            with self.assertRaises(MinusOne) as caught:
                joined_group(first, second)
            self.assertEqual(caught.exception.indices, wanted)
            with self.assertRaises(MinusOne) as again:
                Group(size, [*first.rows, *second.rows])
            self.assertEqual(again.exception.indices, wanted)


if __name__ == "__main__":
    unittest.main()
