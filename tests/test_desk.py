"""[102] to [108]: the desk."""

import unittest

from plain import refused, texts
from keptqubits.desk import Desk
from keptqubits.errors import (Anticommute, BadGauge, BadHidden, BadLot, BadName, BadNumber, BadText, MinusOne, NoName,
                               NotARound, NothingToRedo, NothingToUndo, NotKept, TakenName, TooMany, Unlike)
from keptqubits.losses import Unborne
from keptqubits.faults import Spite
from keptqubits.paulis import Pauli, pauli_text
from keptqubits.regions import Inside
from keptqubits.rounds import History
from keptqubits.tables import Distance

FLIPS = "item code flips 3\nstring ZZI\nstring IZZ\n"
TABLE = "item table t flips\nrow 10 XII\nrow 01 IXI\nrow 11 IIX\n"
ONE = "item sort one 3\nweight 1\nletters X\n"
READ = "item program read 3\nmeasure Z0*Z1 to a\nmeasure Z1*Z2 to b\n"
FOUR = "item code four 4\nstring XXXX\nstring ZZZZ\n"
ALL = FLIPS + TABLE + ONE + READ + FOUR
NO_TEXTS = (None, 0, 1, True, b"", b"item", ["item code a 1"], (), {}, object(), 1.5)


def told_of(desk):
    """All that can be seen of a desk."""
    return desk.lines(), desk.names(), desk.promises()


class DeskTest(unittest.TestCase):
    def desk(self, *promises, text=ALL):
        desk = Desk(text)
        for promise in promises:
            desk.keep(promise)
        return desk

    def wrong(self, text, line, column, call=Desk):
        error = refused(self, BadText, call, text)
        self.assertEqual((error.line, error.column), (line, column), text)

    def unchanged(self, desk, error, call, *given):
        """The error of a call, which must change nothing."""
        before = told_of(desk)
        found = refused(self, error, call, *given)
        self.assertEqual(told_of(desk), before)
        return found


class FileTest(DeskTest):
    def test_empty_files(self):
        for desk in (Desk(), Desk("")):
            self.assertEqual(told_of(desk), ("", (), ()))
        self.wrong("\n", 1, 1)

    def test_all_kinds_in_any_order(self):
        parts = [FLIPS, TABLE, ONE, READ, FOUR]
        for turn in range(5):
            order = parts[turn:] + parts[:turn]
            for text in ("".join(order), "".join(order)[:-1], "".join(reversed(order))):
                desk = Desk(text)
                self.assertEqual(desk.lines(), text if text.endswith("\n") else text + "\n")
                self.assertEqual(desk.names(), tuple(row.split(" ")[2] for row in text.split("\n")
                                                     if row.startswith("item ")))
                self.check_all(desk)

    def check_all(self, desk):
        code = desk.get_code("flips")
        self.assertEqual((code.size, texts(code.group.rows), code.kept), (3, ["ZIZ", "IZZ"], 1))
        table = desk.get_table("t")
        self.assertEqual({key: pauli_text(told) for key, told in table.items()},
                         {(1, 0): "XII", (0, 1): "IXI", (1, 1): "IIX"})
        sort = desk.get_sort("one")
        self.assertEqual((sort.size, sort.text), (3, "weight 1\nletters X\n"))
        program = desk.get_program("read")
        self.assertEqual((program.size, program.text, program.bits), (3, "measure Z0*Z1 to a\nmeasure Z1*Z2 to b\n", ("a", "b")))

    def test_codes(self):
        desk = Desk("item code a 3\ngauge ZZI\nstring -ZZI\nhidden XXX -ZZZ\nstring +IZZ\nitem code b 2\ngauge XI\nhidden IX IZ\n"
                    "gauge -ZI\nitem code c 1\nitem code d 2\nstring ZZ")
        code = desk.get_code("b")
        self.assertEqual((texts(code.gauge), [texts(pair) for pair in code.hidden], code.group.rank),
                         (["XI", "-ZI"], [["IX", "IZ"]], 0))
        self.assertEqual(desk.get_code("c").kept, 1)
        self.assertEqual(len(desk.get_code("d").hidden), 1)

    def test_errors_of_codes(self):
        code = "item code a 2\n"
        for body, error, fields in (
                ("string ZI\nstring XX\nstring YY", Anticommute, {"one": 0, "other": 1}),
                ("string ZI\nstring -ZI", MinusOne, {"indices": (0, 1)}), ("string ZZ\ngauge XI", BadGauge, {"index": 0}),
                ("gauge ZI", BadGauge, {"index": 1}), ("hidden XI ZI\nhidden XI IZ", BadHidden, {"index": 1}),
                ("hidden XI ZI", BadHidden, {"index": 1}), ("string ZZ\nhidden XI ZI", BadHidden, {"index": 0})):
            found = refused(self, error, Desk, code + body)
            self.assertEqual({name: getattr(found, name) for name in fields}, fields)

    def test_tables(self):
        desk = Desk("item table e none\nrow - -XI\nitem code none 2\nitem table f none\nitem table g two\nrow 11 YY\nrow 00 II\n"
                    "item code two 2\nstring XX\nstring ZZ")
        self.assertEqual({key: pauli_text(told) for key, told in desk.get_table("e").items()}, {(): "-XI"})
        self.assertEqual(desk.get_table("f"), {})
        self.assertEqual(list(desk.get_table("g")), [(1, 1), (0, 0)])
        first = desk.get_table("g")
        first.clear()
        self.assertEqual(len(desk.get_table("g")), 2)

    def test_wrong_head_lines(self):
        for head, column in (
                ("item", 2), ("item ", 2), ("item  code a 1", 2), ("item Code a 1", 2), ("item codes a 1", 2), ("item lot a 1", 2),
                ("item code", 3), ("item code ", 3), ("item code  a 1", 3), ("item code A 1", 3), ("item code 1a 1", 3),
                ("item code abcdefghijklm 1", 3), ("item code a_ 1", 3), ("item code a", 4), ("item code a ", 4), ("item code a 0", 4),
                ("item code a 01", 4), ("item code a 25", 4), ("item code a -1", 4), ("item code a x", 4), ("item code a 1 ", 5),
                ("item code a 1 2", 5), ("item sort a 0", 4), ("item sort a 25", 4), ("item sort a", 4), ("item program a 25", 4),
                ("item program a 3 3", 5), ("item table a", 4), ("item table a 3", 4), ("item table a B", 4),
                ("item table a b c", 5), ("item table a ", 4), ("item code \u00e4 1", 3), ("item code a " + "9" * 5000, 4),
                ("item code a \u0663", 4)):
            self.wrong(head, 1, column)
            self.wrong(ONE + head + "\n", 4, column)
            self.wrong("item sort xx 1\nletters Q\nitem code yy 1\nnothing\n" + head, 5, column)
        self.wrong(ALL + "item sort flips 3", 17, 3)
        self.wrong("item code a 1\nitem table a a", 2, 3)

    def test_all_sizes(self):
        for size in range(1, 25):
            desk = Desk(f"item code c {size}\nitem sort s {size}\nitem program p {size}\nwait {size - 1}\n")
            self.assertEqual((desk.get_code("c").size, desk.get_sort("s").size, desk.get_program("p").size), (size,) * 3)

    def test_lines_ahead_of_the_first_head_line(self):
        for line in ("string X", "", " item code a 1", "items code a 1", "weight 1", "Item code a 1"):
            self.wrong(line + "\nitem code A 1\n", 1, 1)
        self.wrong("\nitem code a 1", 1, 1)

    def test_wrong_lines_of_codes(self):
        for line, column in (
                ("", 1), (" ", 1), ("strings XX", 1), ("String XX", 1), (" string XX", 1), ("row 0 XX", 1), ("string", 2), ("string ", 2),
                ("string  XX", 2), ("string X", 2), ("string XXX", 2), ("string iXX", 2), ("string -iXX", 2), ("string xx", 2),
                ("string X0*X1", 2), ("string XX ", 3), ("string XX XX", 3), ("gauge", 2), ("gauge XXX", 2), ("gauge XX ZZ", 3),
                ("hidden", 2), ("hidden XX", 3), ("hidden XX ", 3), ("hidden X ZZ", 2), ("hidden XX Z", 3), ("hidden iXX Z", 2),
                ("hidden XX iZZ", 3), ("hidden XX ZI II", 4), ("hidden  XX ZZ", 2), ("hidden XX  ZI", 3), ("item2", 1)):
            self.wrong(f"item code a 2\nstring ZZ\n{line}\nnothing", 3, column)

    def test_wrong_lines_of_tables(self):
        for line, column in (
                ("", 1), ("rows 0 XX", 1), (" row 0 XX", 1), ("string XX", 1), ("row", 2), ("row ", 2), ("row  XX", 2), ("row 2 XX", 2),
                ("row 00 XX", 2), ("row - XX", 2), ("row x XX", 2), ("row 1 XX", 2), ("row 0", 3), ("row 0 ", 3), ("row 0 X", 3),
                ("row 0 XXX", 3), ("row 0 iXX", 3), ("row 0 xx", 3), ("row 0  XX", 3), ("row 0 XX ", 4), ("row 0 XX XX", 4),
                ("row 1", 2), ("row 00", 2)):
            self.wrong(f"item table t a\nrow 1 XI\n{line}\nnothing\nitem code a 2\nstring ZZ", 3, column)
        for line, column in (("row 0 X", 2), ("row  X", 2), ("row -- X", 2), ("row -", 3), ("row - XX", 3), ("row", 2)):
            self.wrong(f"item code a 1\nitem table t a\n{line}", 3, column)
        self.wrong("item code a 1\nitem table t a\nrow - X\nrow - Y", 4, 2)

    def test_errors_of_sorts_and_programs(self):
        self.wrong("item code a 1\nitem sort s 3\n\nweight 1\n  near 0-1  1-3", 5, 3)
        self.wrong("item sort s 3\nletters Q", 2, 2)
        self.wrong("item sort s 3\nrun", 2, 2)
        self.wrong("item program p 2\nh 0\nh 2\n", 3, 2)
        self.wrong("item program p 2\nh 0\n\nh 1", 3, 1)
        self.wrong("item program p 2\nmeasure X0 to a\nflag a\nitem code a 1", 4, 1)
        self.wrong("item program p 2\ntable t\n", 3, 1)
        self.wrong("item program p 2\nmeasure X0 to a\nmeasure X1 to a\n", 3, 4)
        self.assertEqual(Desk("item sort s 3\n\n  weight   1 \n\nitem program p 1").get_sort("s").text, "\n  weight   1 \n\n")
        self.assertEqual(Desk("item program p 1").get_program("p").text, "")

    def test_the_order_of_errors(self):
        program, table, sort, code = "item program p 1\nh 1", "item table t c\nrow", "item sort s 1\nno", "item code c 1\nno"
        self.wrong("\n".join([program, table, sort, code]), 8, 1)
        self.wrong("\n".join([program, table, sort, "item code c 1"]), 6, 1)
        self.wrong("\n".join([program, table, "item sort s 1", "item code c 1"]), 4, 2)
        self.wrong("\n".join([program, "item table t c", "item sort s 1", "item code c 1"]), 2, 2)
        self.wrong("\n".join([program, table, sort, code, "item code c 2"]), 9, 3)
        self.assertEqual(refused(self, NoName, Desk, "\n".join([program, table, "item sort s 1"])).name, "c")
        self.assertEqual(refused(self, NoName, Desk, "\n".join([program, table, "item sort c 1"])).name, "c")
        self.assertEqual(refused(self, NoName, Desk, "item table t t").name, "t")
        refused(self, BadGauge, Desk, "item code a 1\ngauge X\nitem code b 1\nno")
        self.wrong("item code b 1\nno\nitem code a 1\ngauge X", 2, 1)
        self.wrong("item table u c\nrow -\nitem table t d\nitem code c 1", 2, 3)
        self.assertEqual(refused(self, NoName, Desk, "item table t d\nitem table u c\nrow -\nitem code c 1").name, "d")

    def test_what_is_no_text(self):
        for text in NO_TEXTS:
            self.wrong(text, 0, 0)
            self.wrong(text, 0, 0, Desk().put)


class PromiseTest(DeskTest):
    GOOD = ("flips lot 0", "four lot 3", "flips losses 1 errors 0", "flips distance 1", "flips distance 0", "four distance 2",
            "t mends one", "t faults 0 of read", "t rounds 0 of read", "four losses 1 errors 0")

    def kept(self):
        return [promise for promise in self.GOOD if promise not in ("flips lot 0", "flips losses 1 errors 0")]

    def test_kept(self):
        desk = self.desk(*self.kept())
        self.assertEqual(desk.promises(), tuple(self.kept()))
        for promise in self.kept():
            self.assertEqual(desk.sound(promise), (True, None))
        self.assertEqual(desk.broken(), ())

    def test_not_kept(self):
        desk = self.desk()
        for promise, witness in (("flips lot 0", Inside), ("four lot 0 1", Inside), ("flips losses 1 errors 0", Unborne),
                                 ("four losses 0 errors 1", Unborne), ("flips distance 2", Distance),
                                 ("four distance 999999999", Distance), ("t mends all", Pauli), ("t faults 1 of read", Spite),
                                 ("t rounds 1 of read", History)):
            desk.put("item sort all 3\nweight 1")
            error = self.unchanged(desk, NotKept, desk.keep, promise)
            self.assertEqual(error.promise, promise)
            self.assertIs(error.witness.__class__, witness)
            told, shown = desk.sound(promise)
            self.assertIs(told, False)
            self.assertIs(shown.__class__, witness)
        self.assertEqual(desk.sound("four distance 3")[1].number, 2)
        self.assertEqual(pauli_text(desk.sound("t mends all")[1]), "IIY")
        self.assertEqual(desk.sound("four lot 0 1")[1].string.letters[2:], "II")
        self.assertEqual(len(desk.sound("t rounds 1 of read")[1].rounds), 1)

    def test_wrong_texts(self):
        for promise, column in (
                ("", 1), (" flips lot 0", 1), ("Flips lot 0", 1), ("1 lot 0", 1), ("flips", 2), ("flips ", 2), ("flips  lot 0", 2),
                ("flips lots 0", 2), ("flips Lot 0", 2), ("flips lot", 3), ("flips lot ", 3), ("flips lot x", 3), ("flips lot 00", 3),
                ("flips lot 0 0", 4), ("flips lot 1 0", 4), ("flips lot 0 2 1 5", 5), ("flips lot 0  1", 4), ("flips lot 0 ", 4),
                ("flips lot 1234567890", 3), ("flips lot -1", 3), ("flips lot 0 of", 4), ("flips losses", 3), ("flips losses 1", 4),
                ("flips losses x errors 1", 3), ("flips losses 1 error 1", 4), ("flips losses 1 errors", 5), ("flips losses 1 errors 01", 5),
                ("flips losses 1 errors 1 1", 6), ("flips losses 1 errors 1 ", 6), ("flips distance", 3), ("flips distance x", 3),
                ("flips distance 1 2", 4), ("flips distance 0000000001", 3), ("flips distance 1000000000", 3), ("t mends", 3),
                ("t mends S", 3), ("t mends one two", 4), ("t mends 1", 3), ("t faults", 3), ("t faults x of read", 3), ("t faults 1", 4),
                ("t faults 1 by read", 4), ("t faults 1 of", 5), ("t faults 1 of R", 5), ("t faults 1 of read read", 6), ("t rounds", 3),
                ("t rounds 1 of", 5), ("t rounds 1 of read 1", 6), ("t rounds one of read", 3), ("mends t one", 2), ("lot flips 0", 2),
                ("flips lot 0\n", 3), ("nothing lot x", 3), ("flips\tlot 0", 1), ("\u00e4 lot 0", 1), ("flips lot \u0661", 3)):
            desk = self.desk()
            for call in (desk.keep, desk.sound):
                error = self.unchanged(desk, BadText, call, promise)
                self.assertEqual((error.line, error.column), (1, column), promise)
            self.assertEqual(refused(self, NoName, desk.release, promise).name, promise)

    def test_what_is_no_text(self):
        desk = self.desk()
        for promise in NO_TEXTS:
            for call in (desk.keep, desk.sound, desk.release):
                error = self.unchanged(desk, BadText, call, promise)
                self.assertEqual((error.line, error.column), (0, 0))

    def test_names_of_no_item_or_of_another_kind(self):
        desk = self.desk()
        for promise, name in (("none lot 0", "none"), ("t lot 0", "t"), ("one losses 99 errors 0", "one"), ("read distance 1", "read"),
                              ("flips mends one", "flips"), ("t mends read", "read"), ("none mends other", "none"), ("t mends none", "none"),
                              ("t faults 9 of one", "one"), ("one faults 9 of read", "one"), ("t rounds 9 of none", "none"),
                              ("read rounds 0 of t", "read")):
            for call in (desk.keep, desk.sound):
                self.assertEqual(self.unchanged(desk, NoName, call, promise).name, name)

    def test_errors_of_the_functions(self):
        desk = self.desk()
        desk.put("item sort wide 4\nitem sort many 12\nitem program small 2\nitem program bad 3\nh 0\nitem code none 1\nstring Z\n"
                 "item code long 12\nitem table u long\nitem code gauged 2\ngauge XI\ngauge ZI\nitem table v gauged")
        for promise, error, fields in (
                ("flips lot 0 3", BadLot, {"lot": (0, 3)}), ("flips losses 4 errors 4", BadNumber, {"what": "losses", "number": 4}),
                ("flips losses 0 errors 4", BadNumber, {"what": "errors", "number": 4}), ("none distance 0", BadNumber, {"what": "kept"}),
                ("t mends wide", Unlike, {"what": "size"}), ("u mends many", TooMany, {"what": "errors"}),
                ("t faults 4 of read", BadNumber, {"what": "t", "number": 4}), ("t faults 4 of small", Unlike, {"what": "size"}),
                ("t faults 4 of bad", NotARound, {}), ("t rounds 5 of read", BadNumber, {"what": "t", "number": 5}),
                ("t rounds 5 of small", Unlike, {}), ("v rounds 5 of small", BadGauge, {"index": 0}), ("t rounds 5 of bad", NotARound, {})):
            for call in (desk.keep, desk.sound):
                found = self.unchanged(desk, error, call, promise)
                self.assertEqual({name: getattr(found, name) for name in fields}, fields)
            with self.assertRaises(error), desk:
                desk.keep(promise)

    def test_made_once(self):
        desk = self.desk("t mends one", "flips distance 1", "t mends one")
        self.assertEqual(desk.promises(), ("t mends one", "flips distance 1"))
        desk.undo()
        self.assertEqual(desk.promises(), ("t mends one", "flips distance 1"))
        desk.undo()
        self.assertEqual(desk.promises(), ("t mends one",))

    def test_release(self):
        desk = self.desk("t mends one", "flips distance 1")
        self.assertEqual(self.unchanged(desk, NoName, desk.release, "flips distance 0").name, "flips distance 0")
        desk.release("t mends one")
        self.assertEqual(desk.promises(), ("flips distance 1",))
        refused(self, NoName, desk.release, "t mends one")


class EditTest(DeskTest):
    def test_put(self):
        desk = self.desk()
        desk.put("item code five 1\nitem sort one 2\nweight 0\nitem program read 3\n")
        self.assertEqual(desk.names(), ("flips", "t", "one", "read", "four", "five"))
        self.assertEqual((desk.get_sort("one").size, desk.get_program("read").text), (2, ""))
        self.assertEqual(desk.lines(), FLIPS + TABLE + "item sort one 2\nweight 0\nitem program read 3\n" + FOUR + "item code five 1\n")
        before = desk.lines()
        desk.put("")
        self.assertEqual(desk.lines(), before)

    def test_put_reads_tables_again(self):
        desk = self.desk()
        error = self.unchanged(desk, BadText, desk.put, "item sort new 1\nitem code flips 3\nstring ZZI\n")
        self.assertEqual((error.line, error.column), (1, 2))
        error = self.unchanged(desk, BadText, desk.put, "item code flips 2\nstring ZZ\nitem table t flips\nrow 0 XX\nrow 1 X\n")
        self.assertEqual((error.line, error.column), (5, 3))
        self.assertEqual(self.unchanged(desk, NoName, desk.put, "item sort flips 3").name, "flips")
        desk.put("item code flips 2\nstring ZZ\nitem table t flips\nrow 0 XX\n")
        self.assertEqual(list(desk.get_table("t")), [(0,)])
        desk.put("item sort flips 3\nitem code five 1\nitem table t five\nrow - X")
        self.assertEqual(list(desk.get_table("t")), [()])
        self.assertEqual(desk.names()[0], "flips")
        # lines of one text are counted through it, those of items at the desk from their head lines
        desk = self.desk()
        error = self.unchanged(desk, BadText, desk.put, "item sort new 1\nitem code flips 4\nstring ZZII\nstring IIZZ\n")
        self.assertEqual((error.line, error.column), (1, 3))
        error = self.unchanged(desk, BadText, desk.put, "item program a 1\nh 1\nitem sort b 1\nletters A")
        self.assertEqual((error.line, error.column), (4, 2))

    def test_put_reads_in_the_order_of_the_desk(self):
        desk = self.desk()
        error = self.unchanged(desk, BadText, desk.put, "item sort new 1\nletters A\nitem sort one 3\nletters B\nrun")
        self.assertEqual((error.line, error.column), (4, 2))
        error = self.unchanged(desk, BadText, desk.put, "item program x 1\nh 1\nitem code y 1\nno\nitem code flips 1\nno\nno")
        self.assertEqual((error.line, error.column), (6, 1))

    def test_edit(self):
        desk = self.desk()
        desk.edit("one", 1, "weight 2\n\n")
        self.assertEqual(desk.get_sort("one").text, "weight 2\n\nletters X\n")
        desk.edit("one", 3, "")
        self.assertEqual(desk.get_sort("one").text, "weight 2\n\n")
        desk.edit("one", 3, "letters Z\nrun 1")
        self.assertEqual(desk.get_sort("one").text, "weight 2\n\nletters Z\nrun 1\n")
        desk.edit("one", 5, "\n")
        self.assertEqual(desk.get_sort("one").text, "weight 2\n\nletters Z\nrun 1\n\n")
        desk.edit("read", 1, "x 0\nmeasure Z0*Z1 to a")
        self.assertEqual(desk.get_program("read").bits, ("a", "b"))
        desk.edit("four", 1, "")
        self.assertEqual(texts(desk.get_code("four").group.rows), ["ZZZZ"])
        desk.edit("four", 1, "gauge XXII\nstring ZZZZ\ngauge ZIZI\n")
        self.assertEqual(desk.get_code("four").gauged, 1)
        desk.edit("t", 2, "row 00 III")
        self.assertEqual(list(desk.get_table("t")), [(1, 0), (0, 0), (1, 1)])
        self.assertEqual(desk.names(), ("flips", "t", "one", "read", "four"))

    def test_edit_reads_tables_again(self):
        desk = self.desk()
        error = self.unchanged(desk, BadText, desk.edit, "flips", 2, "")
        self.assertEqual((error.line, error.column), (1, 2))
        before = desk.get_code("flips")
        desk.edit("flips", 2, "string -IZZ")
        self.assertNotEqual(before.group, desk.get_code("flips").group)
        desk.edit("flips", 1, "string ZIZ")
        self.assertEqual(desk.sound("t mends one"), (True, None))

    def test_errors_of_edit(self):
        desk = self.desk()
        for name in NO_TEXTS:
            for number, text in ((1, ""), (0, None)):
                error = self.unchanged(desk, BadName, desk.edit, name, number, text)
                self.assertIs(error.name, name)
        for text in NO_TEXTS:
            error = self.unchanged(desk, BadText, desk.edit, "none", 0, text)
            self.assertEqual((error.line, error.column), (0, 0))
        for name in ("none", "", "A", "flips ", "abcdefghijklmnop"):
            self.assertEqual(self.unchanged(desk, NoName, desk.edit, name, 0, "no").name, name)
        for number in (0, -1, 4, 5, True, None, "1", 1.0, 10 ** 30):
            error = self.unchanged(desk, BadNumber, desk.edit, "flips", number, "no")
            self.assertEqual((error.what, error.number is number), ("line", True))
        for name, number, text, line, column in (
                ("flips", 2, "string IZZ\nno", 3, 1), ("t", 4, "row 01 XXX", 4, 2), ("one", 3, "\nweight 9", 4, 2),
                ("read", 3, "measure X0 to a", 3, 4), ("read", 3, "\n", 3, 1), ("read", 1, "flag a", 1, 2), ("flips", 3, "item code a 1", 3, 1),
                ("t", 4, "item code a 1", 4, 1), ("one", 3, "item code a 1", 3, 1), ("read", 3, "item code a 1", 3, 1),
                ("flips", 1, "string  ZZI", 1, 2)):
            error = self.unchanged(desk, BadText, desk.edit, name, number, text)
            self.assertEqual((error.line, error.column), (line, column))
        self.unchanged(desk, Anticommute, desk.edit, "flips", 3, "string XII")

    def test_drop(self):
        desk = self.desk("t mends one", "four distance 2", "t faults 0 of read", "flips distance 1")
        self.assertEqual(self.unchanged(desk, TakenName, desk.drop, "flips").name, "t")
        desk.drop("one")
        self.assertEqual(desk.promises(), ("four distance 2", "t faults 0 of read", "flips distance 1"))
        desk.drop("read")
        self.assertEqual(desk.promises(), ("four distance 2", "flips distance 1"))
        desk.put("item table u flips\nitem table a four")
        self.assertEqual(self.unchanged(desk, TakenName, desk.drop, "flips").name, "t")
        desk.drop("t")
        self.assertEqual(self.unchanged(desk, TakenName, desk.drop, "flips").name, "u")
        desk.drop("u")
        desk.drop("flips")
        self.assertEqual((desk.names(), desk.promises()), (("four", "a"), ("four distance 2",)))

    def test_names_that_stand_elsewhere_in_a_promise(self):
        desk = Desk("item code lot 2\nitem code distance 2\nstring ZZ\nitem sort of 2\nitem table faults distance\nitem program of2 2")
        for promise in ("distance distance 1", "lot distance 1", "faults faults 0 of of2"):
            desk.keep(promise)
        desk.drop("of")
        desk.rename("faults", "of")
        self.assertEqual(desk.promises(), ("distance distance 1", "lot distance 1", "of faults 0 of of2"))
        desk.rename("distance", "lot2")
        self.assertEqual(desk.promises(), ("lot2 distance 1", "lot distance 1", "of faults 0 of of2"))
        desk.drop("lot")
        self.assertEqual(desk.promises(), ("lot2 distance 1", "of faults 0 of of2"))

    def test_rename(self):
        desk = self.desk("t mends one", "four distance 2", "t faults 0 of read", "flips distance 1")
        desk.rename("flips", "bits")
        self.assertEqual(desk.names(), ("bits", "t", "one", "read", "four"))
        self.assertEqual(desk.lines(), ALL.replace("flips", "bits"))
        desk.rename("t", "flips")
        desk.rename("one", "two")
        desk.rename("read", "one")
        self.assertEqual(desk.promises(), ("flips mends two", "four distance 2", "flips faults 0 of one", "bits distance 1"))
        self.assertEqual(desk.lines(), FLIPS.replace("flips", "bits") + "item table flips bits\n" + TABLE.split("\n", 1)[1]
                         + ONE.replace("one", "two") + READ.replace("read", "one") + FOUR)
        self.assertEqual(len(desk.get_table("flips")), 3)
        self.assertEqual(desk.broken(), ())
        self.assertEqual(self.unchanged(desk, TakenName, desk.drop, "bits").name, "flips")
        for _ in range(4):
            desk.undo()
        self.assertEqual(desk.lines(), ALL)

    def test_errors_of_rename_and_drop(self):
        desk = self.desk()
        for new in (*NO_TEXTS, "", "A", "1a", "a b", "abcdefghijklm", "a\n"):
            for name in (None, "none", "flips"):
                self.assertIs(self.unchanged(desk, BadName, desk.rename, name, new).name, new)
        for name in NO_TEXTS:
            self.assertIs(self.unchanged(desk, BadName, desk.rename, name, "t").name, name)
            for call in (desk.drop, desk.get_code, desk.get_sort, desk.get_table, desk.get_program):
                self.assertIs(self.unchanged(desk, BadName, call, name).name, name)
        for name in ("none", "", "A b"):
            self.assertEqual(self.unchanged(desk, NoName, desk.rename, name, "t").name, name)
            for call in (desk.drop, desk.get_code, desk.get_sort, desk.get_table, desk.get_program):
                self.assertEqual(self.unchanged(desk, NoName, call, name).name, name)
        for new in ("flips", "t", "four"):
            self.assertEqual(self.unchanged(desk, TakenName, desk.rename, "flips", new).name, new)
        for call, name in ((desk.get_code, "t"), (desk.get_sort, "flips"), (desk.get_table, "one"), (desk.get_program, "four")):
            self.assertEqual(refused(self, NoName, call, name).name, name)

    def test_promises_behind_edits(self):
        desk = self.desk("flips distance 1", "t mends one", "t faults 0 of read", "four distance 2")
        error = self.unchanged(desk, NotKept, desk.edit, "t", 3, "")
        self.assertEqual((error.promise, pauli_text(error.witness)), ("t mends one", "IIX"))
        error = self.unchanged(desk, NotKept, desk.put, FOUR.replace("string ZZZZ\n", "") + "item sort one 3\nweight 1\n")
        self.assertEqual(error.promise, "t mends one")
        error = self.unchanged(desk, NotKept, desk.edit, "four", 1, "")
        self.assertEqual((error.promise, error.witness.number), ("four distance 2", 1))
        self.assertEqual(self.unchanged(desk, Unlike, desk.put, "item sort one 4\nweight 0").what, "size")
        self.assertEqual(self.unchanged(desk, NoName, desk.put, "item code one 1").name, "one")
        self.unchanged(desk, NotARound, desk.edit, "read", 1, "lost 0\nmeasure Z0*Z1 to a")
        error = self.unchanged(desk, NotKept, desk.edit, "read", 1, "x 0\nx 1\nx 2\nmeasure Z0*Z1 to a")
        self.assertEqual(error.promise, "t faults 0 of read")
        self.unchanged(desk, BadNumber, desk.put, "item code four 2\nstring ZZ\nstring XX")


class UndoTest(DeskTest):
    def test_nothing(self):
        desk = self.desk()
        refused(self, NothingToUndo, desk.undo)
        refused(self, NothingToRedo, desk.redo)
        desk.keep("flips distance 1")
        refused(self, NothingToRedo, desk.redo)
        desk.undo()
        refused(self, NothingToUndo, desk.undo)
        desk.redo()
        refused(self, NothingToRedo, desk.redo)
        self.assertEqual(desk.promises(), ("flips distance 1",))

    def test_all_edits_back_and_again(self):
        desk = Desk()
        calls = [lambda: desk.put(FLIPS), lambda: desk.put(""), lambda: desk.put(TABLE + ONE), lambda: desk.keep("t mends one"),
                 lambda: desk.keep("t mends one"), lambda: desk.edit("one", 3, ""), lambda: desk.rename("t", "u"),
                 lambda: desk.release("u mends one"), lambda: desk.attempt(lambda held: None), lambda: desk.drop("u"),
                 lambda: desk.attempt(lambda held: (held.put(READ), held.drop("one")))]
        seen = [told_of(desk)]
        for call in calls:
            call()
            seen.append(told_of(desk))
        for _ in range(2):
            for told in reversed(seen[:-1]):
                desk.undo()
                self.assertEqual(told_of(desk), told)
            refused(self, NothingToUndo, desk.undo)
            for told in seen[1:]:
                desk.redo()
                self.assertEqual(told_of(desk), told)
            refused(self, NothingToRedo, desk.redo)
        desk.undo()
        desk.undo()
        desk.put(FOUR)
        refused(self, NothingToRedo, desk.redo)
        desk.undo()
        self.assertEqual(told_of(desk), seen[-3])

    def test_errors_are_no_edits(self):
        desk = self.desk("flips distance 1")
        desk.undo()
        for error, call in ((BadText, lambda: desk.put("no")), (NoName, lambda: desk.drop("no")), (NotKept, lambda: desk.keep("flips lot 0")),
                            (BadNumber, lambda: desk.edit("t", 9, "")), (KeyError, lambda: desk.attempt(lambda held: {}["no"]))):
            refused(self, error, call)
        with desk:
            desk.drop("one")
        desk.trial(lambda held: held.drop("one"))
        desk.redo()
        self.assertEqual(desk.promises(), ("flips distance 1",))


class AttemptTest(DeskTest):
    def test_one_edit(self):
        desk = self.desk("t mends one")

        def action(held):
            self.assertIs(held, desk)
            held.edit("t", 3, "")
            self.assertEqual([promise for promise, _ in held.broken()], ["t mends one"])
            self.assertEqual(held.sound("t mends one")[0], False)
            held.put(TABLE)
            held.put(FOUR.replace("four", "more"))
            return "told"

        before = told_of(desk)
        self.assertEqual(desk.attempt(action), "told")
        self.assertEqual(desk.names()[-1], "more")
        desk.undo()
        self.assertEqual(told_of(desk), before)
        desk.redo()
        self.assertEqual(desk.names()[-1], "more")

    def test_promises_at_the_end(self):
        desk = self.desk("four distance 2", "t mends one")
        error = self.unchanged(desk, NotKept, desk.attempt, lambda held: (held.edit("t", 1, ""), held.edit("four", 1, "")))
        self.assertEqual(error.promise, "four distance 2")
        self.unchanged(desk, NoName, desk.attempt, lambda held: held.put("item code one 1"))
        self.unchanged(desk, NotKept, desk.attempt, lambda held: held.keep("flips distance 2"))
        desk.attempt(lambda held: (held.keep("flips distance 2"), held.release("flips distance 2")))
        self.assertEqual(desk.promises(), ("four distance 2", "t mends one"))

    def test_errors_of_all_kinds(self):
        desk = self.desk("four distance 2")
        for error in (KeyError, ZeroDivisionError, ValueError, RuntimeError, StopIteration, KeyboardInterrupt, SystemExit, BadText):
            def action(held):
                held.drop("four")
                held.attempt(lambda again: again.drop("t"))
                raise error(1, 2)
            self.unchanged(desk, error, desk.attempt, action)
            self.unchanged(desk, error, desk.trial, action)
            before = told_of(desk)
            with self.assertRaises(error):
                with desk:
                    action(desk)
            self.assertEqual(told_of(desk), before)
        desk.undo()
        refused(self, NothingToUndo, desk.undo)

    def test_undo_within(self):
        desk = self.desk("four distance 2")

        def action(held):
            refused(self, NothingToUndo, held.undo)
            held.drop("one")
            held.drop("read")
            held.undo()
            self.assertEqual(held.names(), ("flips", "t", "read", "four"))
            held.redo()
            held.undo()
            held.undo()
            refused(self, NothingToUndo, held.undo)
            held.redo()
            return held.names()

        self.assertEqual(desk.attempt(action), ("flips", "t", "read", "four"))
        refused(self, NothingToRedo, desk.redo)
        desk.undo()
        self.assertEqual(desk.lines(), ALL)
        desk.undo()
        self.assertEqual(desk.promises(), ())
        self.assertEqual(desk.trial(action), ("flips", "t", "read", "four"))
        self.assertEqual(desk.lines(), ALL)
        desk.redo()
        self.assertEqual(desk.promises(), ("four distance 2",))

    def test_an_attempt_forgets_what_was_undone(self):
        desk = self.desk("four distance 2")
        desk.undo()
        desk.attempt(lambda held: None)
        refused(self, NothingToRedo, desk.redo)
        desk.undo()
        self.assertEqual(told_of(desk), (ALL, ("flips", "t", "one", "read", "four"), ()))

    def test_attempts_within_attempts(self):
        desk = self.desk("t mends one")

        def inner(held):
            held.edit("t", 1, "")
            held.drop("four")
            refused(self, NothingToRedo, held.redo)

        def outer(held):
            held.drop("read")
            held.attempt(inner)
            self.assertEqual(len(held.broken()), 1)
            with self.assertRaises(KeyError):
                held.attempt(lambda again: (again.drop("one"), {}["no"]))
            self.assertEqual(held.names(), ("flips", "t", "one"))
            held.undo()
            self.assertEqual(held.names(), ("flips", "t", "one", "four"))
            self.assertEqual(held.broken(), ())
            held.redo()
            held.undo()

        desk.attempt(outer)
        self.assertEqual(desk.names(), ("flips", "t", "one", "four"))
        desk.undo()
        self.assertEqual(desk.lines(), ALL)
        self.unchanged(desk, NotKept, desk.attempt, lambda held: held.attempt(inner))

    def test_trials(self):
        desk = self.desk("t mends one")
        before = told_of(desk)
        self.assertEqual(desk.trial(lambda held: (held.drop("t"), held.names())[1]), ("flips", "one", "read", "four"))
        self.assertEqual(told_of(desk), before)
        with desk as tried:
            self.assertIs(tried, desk)
            tried.edit("t", 1, "")
            self.assertEqual(len(tried.broken()), 1)
            # no promises are looked at within a trial, not at the end of attempts in it either
            tried.attempt(lambda held: held.edit("t", 1, ""))
            self.assertEqual(len(tried.get_table("t")), 1)
            with tried as again:
                again.drop("t")
                self.assertEqual(again.promises(), ())
                refused(self, NotKept, lambda: self.raise_not_kept())
            self.assertEqual(tried.promises(), ("t mends one",))
            tried.undo()
            self.assertEqual(len(tried.get_table("t")), 2)
            tried.trial(lambda held: held.edit("t", 1, ""))
            self.assertEqual(len(tried.get_table("t")), 2)
        self.assertEqual(told_of(desk), before)
        desk.undo()
        desk.trial(lambda held: held.drop("t"))
        desk.redo()
        self.assertEqual(told_of(desk), before)

    def test_a_trial_that_is_called(self):
        desk = self.desk("t mends one", "four distance 2")

        def action(held):
            refused(self, NothingToUndo, held.undo)
            refused(self, NothingToRedo, held.redo)
            held.edit("t", 1, "")
            held.attempt(lambda again: again.edit("t", 1, ""))
            return len(held.broken())

        desk.undo()
        self.assertEqual(desk.trial(action), 1)
        self.assertEqual(desk.broken(), ())
        desk.redo()
        self.assertEqual(desk.promises(), ("t mends one", "four distance 2"))

    def raise_not_kept(self):
        raise NotKept("a", None)

    def test_a_trial_within_an_attempt(self):
        desk = self.desk("t mends one")

        def action(held):
            held.drop("read")
            with held as tried:
                refused(self, NothingToUndo, tried.undo)
                tried.edit("t", 1, "")
                tried.attempt(lambda again: again.drop("four"))
                self.assertEqual(tried.names(), ("flips", "t", "one"))
            self.assertEqual(held.names(), ("flips", "t", "one", "four"))
            held.undo()
            held.redo()

        desk.attempt(action)
        self.assertEqual(desk.names(), ("flips", "t", "one", "four"))
        self.assertEqual(desk.broken(), ())

    def test_keep_raises_at_once_everywhere(self):
        desk = self.desk()
        with desk:
            refused(self, BadText, desk.keep, "no")
            refused(self, NoName, desk.keep, "no lot 0")
            refused(self, BadNumber, desk.keep, "t faults 7 of read")
            desk.keep("flips lot 0")
            self.assertEqual([promise for promise, _ in desk.broken()], ["flips lot 0"])
            self.assertIs(desk.broken()[0][1].__class__, Inside)
            desk.put("item sort flips 1\nitem code c 1\nitem table t c")
            self.assertEqual(refused(self, NoName, desk.broken).name, "flips")
        self.assertEqual(desk.promises(), ())

    def test_a_trial_that_raises(self):
        desk = self.desk()
        with self.assertRaises(NotKept):
            with desk as tried:
                tried.drop("one")
                self.raise_not_kept()
        self.assertEqual(desk.lines(), ALL)
        refused(self, NothingToUndo, desk.undo)


class QuestionTest(DeskTest):
    def test_new_values_of_pairs(self):
        desk = self.desk("t mends one")
        pair = desk.sound("t mends one")
        self.assertEqual((pair.__class__, len(pair)), (tuple, 2))
        self.assertEqual(desk.broken().__class__, tuple)
        with desk:
            desk.edit("t", 1, "")
            (promise, witness), = desk.broken()
            self.assertEqual((promise, pauli_text(witness)), ("t mends one", "XII"))

    def test_equal_desks_are_apart(self):
        one, other = self.desk(), self.desk()
        one.drop("one")
        self.assertIn("one", other.names())

    def test_twenty_items_and_thirty_promises(self):
        rows = [FLIPS + TABLE + ONE + READ]
        rows += [f"item code c{k} 5\nstring XZZXI\nstring IXZZX\nstring XIXZZ\nstring ZXIXZ\n" for k in range(16)]
        desk = Desk("".join(rows))
        for k in range(15):
            desk.keep(f"c{k} distance 3")
            desk.keep(f"c{k} losses 2 errors 0")
        self.assertEqual((len(desk.names()), len(desk.promises())), (20, 30))
        desk.rename("c3", "d")
        self.assertEqual(desk.promises()[6:8], ("d distance 3", "d losses 2 errors 0"))
        error = self.unchanged(desk, NotKept, desk.edit, "c14", 1, "")
        self.assertEqual(error.promise, "c14 distance 3")


if __name__ == "__main__":
    unittest.main()
