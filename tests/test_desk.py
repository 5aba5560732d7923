"""Promises 14.3 and 14.4: the desk's rows and their answers; and what is promised over the whole program."""

import random
import unittest

from helper import SPOTS, RefusalChecks, some_deed, some_sheet
from onelook.areas import area_name
from onelook.carried import readied
from onelook.causes import right_wave
from onelook.deeds import deed_wave
from onelook.desk import Desk
from onelook.errors import SheetError
from onelook.fresh import fresh_book, stands
from onelook.judge import right_book
from onelook.keeper import Keeper
from onelook.places import place_name, read_place
from onelook.rings import rings_in
from onelook.sheets import with_cells
from onelook.sheettext import read_sheet, sheet_text, worth_text
from onelook.support import support_of

SHEET = "a1 5\nb1 = a1 + 1\nc1 = b1 * 2\nb2 \"x\""
LETTERS = "abcdefghijklmnopqrstuvwxyz"


class Deeds(unittest.TestCase, RefusalChecks):
    def assert_rows(self, text, pairs, text_now):
        """Rows asked one behind the other, each with its answer, and the sheet in the end."""
        desk = Desk(text)
        for row, answer in pairs:
            self.assertEqual(desk.ask(row), answer, row)
        self.assertEqual(desk.text(), text_now)

    def test_at_first(self):
        self.assert_rows("", [], "")
        self.assert_rows("b2 \"x\"\nc1 = (b1) * 2\nb1 = a1+1\na1 5", [], SHEET)

    def test_texts_that_are_refused(self):
        full = "\n".join(letter + str(row) + " 1" for row in range(1, 52) for letter in "abcd")
        for text, name in [("a1", "BadText"), ("a1 5\n", "BadText"), ("a1 = sum(a1:z99)", "BadFormula"), ("a1 \"%\"", "BadContent"),
                           ("a1 1\na1 1", "BadContent"), (full, "Full")]:
            self.refused(name, Desk, text)

    def test_put(self):
        self.assert_rows(SHEET, [
            ("put a1 7", "a1 5 -> 7\nb1 6 -> 8\nc1 12 -> 16"),
            ("put a1 7", ""),
            ("put a1 -7", "a1 7 -> -7\nb1 8 -> -6\nc1 16 -> -12"),
            ("put a1 \"y\"", "a1 -7 -> \"y\"\nb1 -6 -> fault kind\nc1 -12 -> fault kind"),
            ("put a1 = c1", "a1 \"y\" -> waits\nb1 fault kind -> waits\nc1 fault kind -> waits"),
            ("put b1 = z99", "a1 waits -> 0\nb1 waits -> blank\nc1 waits -> 0"),
            ("put d4 \"\"", "d4 blank -> \"\""),
            # Formulas of the same worth turn nothing; blanks and brackets more are read.
            ("put a1 =  ( c1 )+0 ", ""),
            ("put a1 = 0", ""),
            ("put a1 0", ""),
        ], "a1 0\nb1 = z99\nc1 = b1 * 2\nb2 \"x\"\nd4 \"\"")

    def test_clear(self):
        self.assert_rows(SHEET, [
            ("clear b1", "b1 6 -> blank\nc1 12 -> 0"), ("clear b1", ""), ("clear z99", ""), ("clear b2", "b2 \"x\" -> blank"),
            ("clear c1", "c1 0 -> blank"), ("clear a1", "a1 5 -> blank")], "")

    def test_copy(self):
        self.assert_rows(SHEET, [
            ("copy a1:c1 a2", "a2 blank -> 5\nb2 \"x\" -> 6\nc2 blank -> 12"),
            ("copy a1:a1 d9", "d9 blank -> 5"),
            ("copy e1:e2 d9", "d9 5 -> blank"),
            ("copy b2:b2 a1", "a1 5 -> fault lost\nb1 6 -> fault lost\nc1 12 -> fault lost"),
        ], "a1 = lost + 1\nb1 = a1 + 1\nc1 = b1 * 2\na2 5\nb2 = a2 + 1\nc2 = b2 * 2")

    def test_shifts(self):
        self.assert_rows(SHEET, [
            ("rows in 1 1", "moved"),
            ("columns in c 2", "moved"),
            ("rows out 3 1", "moved\nb3 \"x\" -> blank"),
            # By the names ahead of it.
            ("columns out a 1", "moved\na2 5 -> blank\nb2 6 -> fault lost\ne2 12 -> fault lost"),
        ], "a2 = lost + 1\nd2 = a2 * 2")
        self.assert_rows("b1 = if(z1, a1, 7)\na1 5\nc1 = a1", [
            ("columns out a 1", "moved\na1 5 -> blank\nc1 5 -> fault lost"),
            ("rows out 1 99", "moved\na1 7 -> blank\nb1 fault lost -> blank"),
        ], "")
        self.assert_rows("", [("rows in 99 1", "moved"), ("columns out z 1", "moved"), ("rows out 1 99", "moved")], "")

    def test_lines_as_far_as_they_go(self):
        for letter in LETTERS:
            number = LETTERS.index(letter)
            self.assert_rows("a1 1", [("columns in " + letter + " 1", "moved")], "b1 1" if number == 0 else "a1 1")
            self.assert_rows("", [("columns out " + letter + " " + str(26 - number), "moved")], "")
            self.assert_rows("", [("columns out " + letter + " " + str(27 - number), "refused BadCount")], "")
        self.assert_rows("a1 1", [("rows in 1 98", "moved")], "a99 1")
        self.assert_rows("a1 1", [("rows in 1 99", "refused NoRoom"), ("rows in 2 " + "9" * 60, "moved")], "a1 1")
        self.assert_rows("a1 1\na2 2", [("rows out 2 98", "moved\na2 2 -> blank")], "a1 1")

    def test_back_and_again(self):
        self.assert_rows(SHEET, [
            ("put a1 7", "a1 5 -> 7\nb1 6 -> 8\nc1 12 -> 16"),
            ("columns out b 1", "moved\nb1 8 -> blank\nc1 16 -> fault lost\nb2 \"x\" -> blank"),
            ("clear b1", "b1 fault lost -> blank"),
            ("back", "b1 blank -> fault lost"),
            ("again", "b1 fault lost -> blank"),
            ("back", "b1 blank -> fault lost"),
            ("back", "moved"),
            ("again", "moved"),
            ("back", "moved"),
            ("back", "a1 7 -> 5\nb1 8 -> 6\nc1 16 -> 12"),
            ("back", "refused NoDeed"),
            ("again", "a1 5 -> 7\nb1 6 -> 8\nc1 12 -> 16"),
            ("put a1 7", ""),
            ("again", "refused NoDeed"),
            ("back", ""),
            ("back", "a1 7 -> 5\nb1 8 -> 6\nc1 16 -> 12"),
        ], SHEET)

    def test_a_row_that_is_asked_changes_no_deed(self):
        self.assert_rows(SHEET, [
            ("put a1 7", "a1 5 -> 7\nb1 6 -> 8\nc1 12 -> 16"), ("back", "a1 7 -> 5\nb1 8 -> 6\nc1 16 -> 12"),
            ("show a1", "5"), ("rings", "none"), ("put a1 \"%\"", "refused BadContent"), ("nothing", "refused BadText"),
            ("again", "a1 5 -> 7\nb1 6 -> 8\nc1 12 -> 16")], SHEET.replace("a1 5", "a1 7"))


class Questions(unittest.TestCase):
    def assert_answers(self, text, pairs):
        desk = Desk(text)
        for row, answer in pairs:
            self.assertEqual(desk.ask(row), answer, row)
            self.assertEqual(desk.ask(row), answer, row)
        self.assertEqual(desk.text(), sheet_text(read_sheet(text)))

    def test_show(self):
        self.assert_answers(
            "a1 5\nb1 = a1 - 9\nc1 \"x\"\nd1 = c1 & c1\ne1 = 1 / 0\nf1 = f1\ng1 = z9\nh1 = lost\ni1 = -c1\nj1 = least(x1:y2)"
            "\nk1 = 1" + "0" * 60 + " * 10",
            [("show a1", "5"), ("show b1", "-4"), ("show c1", "\"x\""), ("show d1", "\"xx\""), ("show e1", "fault nought"),
             ("show f1", "waits"), ("show g1", "blank"), ("show h1", "fault lost"), ("show i1", "fault kind"),
             ("show j1", "fault none"), ("show k1", "fault great"), ("show z99", "blank")])

    def test_why(self):
        self.assert_answers(
            "a1 5\nb1 = a1\nc1 = sum(a1:b3) + a1 + b1 + sum(a1:b3)\nd1 = find(5, a1:b4)\ne1 = e1\nf1 = 7\ng1 = sum(d2:f3)\ne2 = lost"
            "\nh1 = if(a2, 1, i1)\ni1 = a1 + h1 + b1",
            [("why a1", "none"), ("why z9", "none"), ("why f1", "none"), ("why b1", "a1"), ("why c1", "a1:b3..b3 a1 b1"),
             ("why d1", "a1:a4..a1 b1"), ("why e1", "e1"), ("why e2", "none"), ("why g1", "d2:f3..e2"), ("why h1", "a2 i1"),
             ("why i1", "a1 h1")])

    def test_rings(self):
        self.assert_answers(SHEET, [("rings", "none")])
        self.assert_answers("", [("rings", "none")])
        self.assert_answers("b1 = b1", [("rings", "b1")])
        self.assert_answers(
            "c1 = a1\na1 = b1\nb1 = c1\nd1 = a1\na10 = b10\nb10 = a10\nz2 = z2", [("rings", "a1 > b1 > c1\nz2\na10 > b10")])

    def test_formula(self):
        self.assert_answers(
            "a1 -5\nb1 = ( a1+1 )*$c$2\nc1 \"= a1\"\nd1 = b1\ne1 = find(\"x\", a$1:$b2)",
            [("formula a1", "-5"), ("formula b1", "= (a1 + 1) * $c$2"), ("formula c1", "\"= a1\""), ("formula d1", "= b1"),
             ("formula e1", "= find(\"x\", a$1:$b2)"), ("formula f1", "blank"), ("formula z99", "blank")])

    def test_hangs(self):
        self.assert_answers(
            "a1 5\na10 = a1\nb2 = a10 + sum(c1:c3)\nb1 = if(b2, z9, y9)\nd1 = e1\ne1 = d1 + b2",
            [("hangs a1", "a1"), ("hangs z99", "z99"), ("hangs a10", "a1 a10"), ("hangs b2", "a1 c1 b2 c2 c3 a10"),
             ("hangs b1", "a1 b1 c1 b2 c2 c3 z9 a10"), ("hangs d1", "d1 e1")])

    def test_behind_deeds(self):
        desk = Desk(SHEET)
        desk.ask("columns in a 1")
        self.assertEqual([desk.ask(row) for row in ["show a1", "show b1", "why c1", "formula d1", "hangs d1"]],
                         ["blank", "5", "b1", "= c1 * 2", "b1 c1 d1"])
        desk.ask("back")
        self.assertEqual([desk.ask(row) for row in ["show a1", "why c1", "formula c1", "hangs c1"]], ["5", "b1", "= b1 * 2", "a1 b1 c1"])


class Refusals(unittest.TestCase):
    def assert_refused(self, text, rows, name):
        desk = Desk(text)
        desk.ask("put z98 1")
        desk.ask("back")
        kept = desk.text()
        for row in rows:
            self.assertEqual(desk.ask(row), "refused " + name, row)
            self.assertEqual(desk.text(), kept)
        # The deed that was taken back still stands so.
        self.assertEqual(desk.ask("again"), "z98 blank -> 1")

    def test_rows_of_no_kind(self):
        self.assert_refused(SHEET, [
            "", " ", "  ", "x", "put", "put ", "put a1", "put a1 ", "putt a1 5", "a1 5", "puta1 5", "clear", "clear ", "copy", "copy a1:b2",
            "copy a1:b2 ", "rows", "rows in", "rows in 1", "rows in 1 ", "rows 1 1", "rows on 1 1", "rows in out 1", "columns in a",
            "columns", "columns a 1", "show", "why", "why ", "formula", "hangs", "back again", "again back", "backs", "aback", "rings a1",
            "back 1", "moved", "refused BadText", "none", "shift rows in 1 1", "bundle", "rows in 1 1 1", "columns in a 1 1", "clear a1 a2",
            "copy a1:b2 c1 c2", "show a1 a2", "in rows 1 1", "text", "do", "lines in a 1", "lines in 1 1", "row in 1 1",
            "column out a 1", " in a 1"], "BadText")

    def test_blanks_too_many_or_too_few(self):
        self.assert_refused(SHEET, [
            " put a1 5", "put  a1 5", "put a1  5", "put a1 5 ", "put a1 \"x\" ", "put a1 =b1", " clear a1", "clear  a1", "clear a1 ",
            "copy  a1:b2 c1", "copy a1:b2  c1", "copy a1:b2 c1 ", "copy a1: b2 c1", "rows  in 1 1", "rows in  1 1", "rows in 1  1",
            "rows in 1 1 ", "rowsin 1 1", "rows in 11", " rows in 1 1", "columns in  a 1", "columns in a1", " back", "back ", "again ",
            " again", "rings ", " rings", "show  a1", "show a1 ", " show a1", "showa1", "why a1 ", "formula  a1", "hangs a1 "], "BadText")

    def test_capital_letters_and_odd_signs(self):
        self.assert_refused(SHEET, [
            "Put a1 5", "PUT a1 5", "put A1 5", "Clear a1", "clear A1", "Copy a1:b2 c1", "copy A1:b2 c1", "copy a1:b2 C1", "Rows in 1 1",
            "rows In 1 1", "columns in A 1", "Back", "AGAIN", "Rings", "Show a1", "show A1", "Why a1", "Formula a1", "Hangs a1",
            "put\ta1 5", "clear a1\n", "\nback", "back\n", "rings\n", "show a1\r", "show \u0430\u0031", "show a\u0661", "clear a1\u00a0",
            "put a1 5\n", "put a1 5\nput a2 6", "put a1 \"x\ny\"", "put a1 \"x\"\n", "put a1 = b1\n", "rows in \u0661 1", "\u00e9", "clear $a1",
            "copy $a1:b2 c1", "copy a1:b2 $c1", "show a1:a1", "columns in $ 1", "columns in \u00e9 1", "rows in 1 1\n", "%", "\"", "~"],
            "BadText")

    def test_names_that_are_none(self):
        names = ["a0", "a100", "a01", "aa1", "1", "a", "", "1a", "a1b", "a-1", "a1:b2"]
        self.assert_refused(SHEET, [word + " " + name for word in ["clear", "show", "why", "formula", "hangs"] for name in names], "BadText")
        self.assert_refused(SHEET, ["put " + name + " 5" for name in names], "BadText")
        self.assert_refused(SHEET, ["copy a1:b2 " + name for name in names], "BadText")
        self.assert_refused(SHEET, ["copy " + area + " a1" for area in ["a1", "a1:", ":a1", "a1:b2:c3", "b2:a1", "a1:b0", "a1:b100", "a2:b1", ":"]], "BadText")

    def test_of_copy_the_name_goes_ahead_of_the_area(self):
        self.assert_refused(SHEET, ["copy a1:z99 a1", "copy a1:d76 z99", "copy a1:z12 z99"], "BadArea")
        self.assert_refused(SHEET, ["copy a1:z99 a0", "copy a1:z99 x", "copy a1:z99 ", "copy b2:a1 a0"], "BadText")

    def test_numbers(self):
        # Numbers that are none, or too long.
        for number in ["01", "00", "-1", "+1", "1.", "x", "a", "1a", "", "9" * 61, "1" + "0" * 60, "0" * 60]:
            self.assert_refused(SHEET, ["rows in " + number + " 1", "rows in 1 " + number, "rows out " + number + " 1", "columns in a " + number,
                                        "columns out a " + number], "BadText")
        # Numbers that are no shift's.
        long_one = "9" * 60
        self.assert_refused(SHEET, [
            "rows in 0 1", "rows in 100 1", "rows in 1 0", "rows out 0 1", "rows out 100 1", "rows out 1 0", "rows out 1 100", "rows out 99 2",
            "columns in a 0", "columns out a 0", "columns out a 27", "columns out z 2", "rows in " + long_one + " 1", "rows in 0 0",
            "rows out 1 " + long_one, "rows out " + long_one + " " + long_one, "columns out a " + long_one], "BadCount")
        self.assert_refused(SHEET, ["rows in 1 " + long_one, "rows in 1 98", "columns in a 24", "columns in b " + long_one], "NoRoom")

    def test_letters_that_are_none(self):
        self.assert_refused(SHEET, ["columns " + way + " " + letter + " 1" for way in ["in", "out"]
                                    for letter in ["A", "ab", "1", "0", "", "$", "a1", "{", "`"]], "BadText")
        # The letter is a wrong text whatever the number is.
        self.assert_refused(SHEET, ["columns in A 0", "columns in a 0x", "rows in 0 x", "rows in x 0"], "BadText")

    def test_contents(self):
        self.assert_refused(SHEET, ["put a1 = " + "9" * 61, "put a1 = sum(a1:z99)", "put a1 = \"" + "x" * 41 + "\"", "put a1 = " + "-" * 12 + "1",
                                    "put a1 = " + "-" * 3900 + "1", "put a1 = 1" + "+1" * 1900], "BadFormula")
        self.assert_refused(SHEET, ["put a1 1" + "0" * 59 + "1", "put a1 -1" + "0" * 61, "put a1 \"" + "x" * 41 + "\"", "put a1 \"%\"",
                                    "put a1 \"\u00e9\"", "put a1 \"\t\"", "put a1 " + "9" * 3900], "BadContent")
        self.assert_refused(SHEET, ["put a1 05", "put a1 -0", "put a1 +5", "put a1 \"", "put a1 \"x", "put a1 \"x\"y\"", "put a1 = ", "put a1 =",
                                    "put a1 = x", "put a1 blank", "put a1 = sum(a1:z99) +", "put a0 \"%\"", "put a1 = \"%\""], "BadText")

    def test_full_and_room(self):
        full = "\n".join(letter + str(row) + " 1" for row in range(1, 51) for letter in "abcz")
        for rows, name in [(["put e1 5", "put e1 = a1", "copy a1:a1 e1", "copy a1:b2 x98"], "Full"),
                           (["columns in z 1", "columns in a 1", "rows in 1 50", "copy a1:b1 z1", "copy a1:a2 z99"], "NoRoom"),
                           (["put e1 \"%\""], "BadContent"), (["put e1 = sum(a1:z99)"], "BadFormula"), (["back", "again"], "NoDeed")]:
            desk = Desk(full)
            for row in rows:
                self.assertEqual(desk.ask(row), "refused " + name, row)
                self.assertEqual(desk.text(), full)
        desk = Desk("z1 = z99\na1 = z99")
        self.assertEqual(desk.ask("rows in 50 1"), "refused NoRoom")

    def test_nothing_is_kept_of_what_was_refused(self):
        desk = Desk(SHEET)
        self.assertEqual(desk.ask("back"), "refused NoDeed")
        self.assertEqual(desk.ask("again"), "refused NoDeed")
        for row in ["put a1 \"%\"", "rows in 0 1", "columns in a 25", "copy a1:b2 z99", "x"]:
            self.assertTrue(desk.ask(row).startswith("refused "))
        self.assertEqual(desk.ask("back"), "refused NoDeed")


def row_of_deed(deed):
    if deed[0] == "put":
        return "put " + sheet_text({deed[1]: deed[2]})
    if deed[0] == "clear":
        return "clear " + place_name(deed[1])
    if deed[0] == "copy":
        return "copy " + area_name(deed[1]) + " " + place_name(deed[2])
    line = LETTERS[deed[2]] if deed[1].startswith("columns") else str(deed[2] + 1)
    return deed[1] + " " + line + " " + str(deed[3])


class WholeProgram(unittest.TestCase):
    """Desk and keeper beside one another; books by reckoning afresh, judged; waves judged; sheets read back."""

    def assert_turned(self, answer, sheet, sheet_now):
        book, book_now = fresh_book(sheet), fresh_book(sheet_now)
        rows = []
        for place in sorted(set(sheet) | set(sheet_now)):
            before, now = stands(sheet, book, place), stands(sheet_now, book_now, place)
            if before != now:
                rows.append(f"{place_name(place)} {worth_text(before)} -> {worth_text(now)}")
        self.assertEqual(answer, "\n".join(rows))

    def assert_questions(self, desk, sheet, chance):
        book = fresh_book(sheet)
        place = chance.choice(SPOTS)
        name = place_name(place)
        self.assertEqual(desk.ask("show " + name), worth_text(stands(sheet, book, place)))
        self.assertEqual(desk.ask("formula " + name), sheet_text({place: sheet[place]})[len(name) + 1:] if place in sheet else "blank")
        self.assertEqual([read_place(word) for word in desk.ask("hangs " + name).split(" ")], support_of(book, place))
        rings = [" > ".join(place_name(cell) for cell in ring) for ring in rings_in(book)]
        self.assertEqual(desk.ask("rings"), "\n".join(rings) or "none")
        items = [place_name(item[1]) if item[0] == "at" else area_name(item[1]) + ".." + place_name(item[2])
                 for item in book.get(place, ("", None, ()))[2]]
        self.assertEqual(desk.ask("why " + name), " ".join(items) or "none")

    def one_deed(self, keeper, desk, chance):
        deed = some_deed(chance)
        while deed[0] == "bundle":
            deed = some_deed(chance)
        sheet, book = keeper.sheet_now(), keeper.book_now()
        answer = desk.ask(row_of_deed(deed))
        try:
            wave = keeper.do(deed)
        except SheetError as error:
            self.assertEqual(answer, "refused " + type(error).__name__)
            return
        changes = {place: keeper.sheet_now().get(place) for place in list(sheet) + list(keeper.sheet_now())}
        book_now = keeper.book_now()
        if deed[0] == "shift":
            changes = readied(sheet, deed[1:])
            book_now = fresh_book(with_cells(sheet, changes))
            self.assertEqual(answer[:5], "moved")
            self.assert_turned(answer[6:], sheet, with_cells(sheet, changes))
            self.assertEqual(keeper.sheet_now(), deed_wave(sheet, book, deed)[0])
        else:
            self.assert_turned(answer, sheet, keeper.sheet_now())
        self.assertIs(right_wave(sheet, book, changes, book_now, wave), True)

    def one_step(self, keeper, desk, word):
        sheet, book, deeds = keeper.sheet_now(), keeper.book_now(), keeper.deeds()
        answer = desk.ask(word)
        try:
            wave = keeper.back() if word == "back" else keeper.again()
        except SheetError as error:
            self.assertEqual(answer, "refused " + type(error).__name__)
            return
        gone = (deeds if word == "back" else keeper.deeds())[-1]
        if gone[0] == "shift":
            self.assertEqual((answer, wave), ("moved", []))
        else:
            self.assert_turned(answer, sheet, keeper.sheet_now())
            changes = {place: keeper.sheet_now().get(place) for place in list(sheet) + list(keeper.sheet_now())}
            self.assertIs(right_wave(sheet, book, changes, keeper.book_now(), wave), True)

    def test_by_chance(self):
        chance = random.Random(181)
        for _ in range(25):
            sheet = some_sheet(chance)
            keeper, desk = Keeper(sheet), Desk(sheet_text(sheet))
            for _ in range(20):
                word = chance.choice(["deed", "deed", "deed", "back", "again"])
                if word == "deed":
                    self.one_deed(keeper, desk, chance)
                else:
                    self.one_step(keeper, desk, word)
                now = keeper.sheet_now()
                self.assertEqual(keeper.book_now(), fresh_book(now))
                self.assertIs(right_book(now, keeper.book_now()), True)
                self.assertEqual(desk.text(), sheet_text(now))
                self.assertEqual(read_sheet(desk.text()), now)
                self.assert_questions(desk, now, chance)


if __name__ == "__main__":
    unittest.main()
