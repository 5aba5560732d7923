"""Promises 14.1 and 14.2: sheets and worths written, texts read to sheets."""

import random
import unittest

from helper import RefusalChecks, num, row_of, sheet_by, some_content, some_sheet
from onelook.fresh import fresh_book, stands
from onelook.sheets import made_sheet
from onelook.sheettext import read_sheet, sheet_text, worth_text

GREAT = 10 ** 60
ODD_SIGNS = " !#$&'()*+,-./:;<=>?@[\\]^_`{|}~"

# A text for each refusal, alone in its row, at a place of its own.
BAD_TEXT = "b1 +5"
BAD_FORMULA = "b2 = " + "1" + "0" * 59 + "99"
BAD_CONTENT = "b3 \"a%b\""


class Written(unittest.TestCase):
    def test_the_empty_sheet(self):
        self.assertEqual(sheet_text({}), "")
        self.assertEqual(sheet_text(made_sheet([((0, 0), None)])), "")

    def test_numbers(self):
        self.assertEqual(sheet_text({(0, 0): 0}), "a1 0")
        self.assertEqual(sheet_text({(98, 25): -70}), "z99 -70")
        self.assertEqual(sheet_text({(9, 1): GREAT, (0, 25): -GREAT}), "z1 -1" + "0" * 60 + "\nb10 1" + "0" * 60)

    def test_texts(self):
        self.assertEqual(sheet_text({(0, 0): ""}), "a1 \"\"")
        self.assertEqual(sheet_text({(0, 0): " x "}), "a1 \" x \"")
        self.assertEqual(sheet_text({(0, 0): ODD_SIGNS, (1, 0): "= a1", (2, 0): "5"}),
                         "a1 \"" + ODD_SIGNS + "\"\na2 \"= a1\"\na3 \"5\"")

    def test_formulas(self):
        for text in [
                "5", "\"x, y\"", "lost", "a1", "$c$12", "-a1", "--a1", "not(b2)", "a1 - -b1", "(a1 + 1) * 2", "a1 & \"\" & b1",
                "rest(a1, 7)", "if(a1 < 5, b1, else(c1, 0))", "sum(b$2:$d5)", "count(a1:a1)", "least(a1:b2) / greatest(a1:b2)",
                "find(a1 = b1, b2:d5)", "\"\""]:
            self.assertEqual(sheet_text(sheet_by({"c3": "= " + text})), "c3 = " + text)

    def test_rows_ascending(self):
        told = {"b10": 1, "a2": 2, "z1": 3, "a10": 4, "b1": 5, "a1": "= b1"}
        self.assertEqual(sheet_text(sheet_by(told)), "a1 = b1\nb1 5\nz1 3\na2 2\na10 4\nb10 1")

    def test_nothing_is_changed(self):
        sheet = sheet_by({"b1": 1, "a1": "= b1"})
        self.assertEqual(sheet_text(sheet), sheet_text(sheet))
        self.assertEqual(list(sheet.items()), list(sheet_by({"b1": 1, "a1": "= b1"}).items()))

    def test_worths(self):
        for standing, text in [
                (0, "0"), (7, "7"), (-7, "-7"), (GREAT, "1" + "0" * 60), (-GREAT, "-1" + "0" * 60), ("", "\"\""), ("x y", "\"x y\""),
                ("5", "\"5\""), ("blank", "\"blank\""), ("x" * 200, "\"" + "x" * 200 + "\""), (None, "blank"), (("waits",), "waits")]:
            self.assertEqual(worth_text(standing), text)
        for word in ["kind", "great", "nought", "none", "lost"]:
            self.assertEqual(worth_text(("fault", word)), "fault " + word)

    def test_worths_as_places_stand(self):
        sheet = sheet_by({"a1": "= a1", "b1": "= 1 / 0", "c1": "= z9", "d1": "= \"x\" & 5", "e1": "= -5", "f1": "y"})
        book = fresh_book(sheet)
        told = [worth_text(stands(sheet, book, (0, column))) for column in range(7)]
        self.assertEqual(told, ["waits", "fault nought", "blank", "\"x5\"", "-5", "\"y\"", "blank"])


class Read(unittest.TestCase, RefusalChecks):
    def test_the_empty_text(self):
        self.assertEqual(read_sheet(""), {})

    def test_rows_in_any_order(self):
        told = {"b10": 1, "a2": "x", "z1": -3, "a1": "= b1"}
        for text in ["a1 = b1\nz1 -3\na2 \"x\"\nb10 1", "b10 1\na2 \"x\"\nz1 -3\na1 = b1", "a2 \"x\"\na1 = b1\nb10 1\nz1 -3"]:
            self.assertEqual(read_sheet(text), sheet_by(told))

    def test_blanks_and_brackets_of_formulas(self):
        for text in ["= a1+1", "= ( a1 ) + (1)", "=   a1 + 1", "= a1 + 1   ", "= (((a1 + 1)))"]:
            self.assertEqual(read_sheet("c3 " + text), sheet_by({"c3": "= a1 + 1"}))
        self.assertEqual(read_sheet("c3 = sum( a1:b2 )"), sheet_by({"c3": "= sum(a1:b2)"}))

    def test_texts(self):
        self.assertEqual(read_sheet("a1 \"\""), {(0, 0): ""})
        self.assertEqual(read_sheet("a1 \" = b1 \"\na2 \"" + ODD_SIGNS + "\""), {(0, 0): " = b1 ", (1, 0): ODD_SIGNS})
        self.assertEqual(read_sheet("a1 \"" + "x" * 40 + "\""), {(0, 0): "x" * 40})

    def test_numbers(self):
        for number in [0, 7, -7, 10, -10, GREAT, -GREAT, GREAT - 1, 1 - GREAT]:
            self.assertEqual(read_sheet("a1 " + str(number)), {(0, 0): number})

    def test_sheets_read_back(self):
        chance = random.Random(171)
        for _ in range(150):
            sheet = some_sheet(chance, deep=6)
            text = sheet_text(sheet)
            self.assertEqual(read_sheet(text), sheet)
            rows = text.split("\n") if text else []
            chance.shuffle(rows)
            self.assertEqual(read_sheet("\n".join(rows)), sheet)
            self.assertEqual(sheet_text(read_sheet(text)), text)
        _, row = row_of(200, 1)
        self.assertEqual(read_sheet(sheet_text(row)), row)

    def test_rows_that_are_none(self):
        for text in [
                # Names and blanks.
                " ", "a1", "a1 ", " a1 5", "a15", "a1  5", "a1  \"x\"", "a1  = b1", "a1\t5", "A1 5", "a0 5", "a01 5", "a100 5", "aa1 5",
                "1a 5", "$a1 5", "a1: 5", "a1:a1 5", "a1 blank", "a1 fault kind", "a1 waits", "a1 x", "a1 None",
                # Numbers.
                "a1 05", "a1 00", "a1 -0", "a1 -05", "a1 -", "a1 +5", "a1 --5", "a1 - 5", "a1 5 ", "a1 5 5", "a1 5.0", "a1 1e5", "a1 5_0",
                "a1 \u0665", "a1 " + "0" * 70, "a1 " + "9" * 70 + "x",
                # Texts.
                "a1 \"", "a1 \"x", "a1 x\"", "a1 \"x\" ", "a1 \"x\"y\"", "a1 \"x\"\"", "a1 \"\"\"", "a1 'x'", "a1 \"x\"y", "a1 \"%\"%\"",
                # Formulas.
                "a1 =", "a1 = ", "a1 =b1", "a1 =  ", "a1 b1", "a1 = b0", "a1 = (b1", "a1 = b1)", "a1 = b1 b1", "a1 == b1", "a1 = = b1",
                "a1 = B1", "a1 = sum(b2:a1)", "a1 = 05", "a1 = \"x", "a1 = " + "(" * 41 + "1" + ")" * 41, "a1 = \t5"]:
            self.refused("BadText", read_sheet, text)
            self.refused("BadText", read_sheet, "c1 5\n" + text + "\nc2 6")

    def test_empty_rows(self):
        for text in ["\n", "a1 5\n", "\na1 5", "a1 5\n\na2 6", "a1 5\n ", "a1 \"x\ny\"", "a1 5\r\na2 6", "a1 5\r"]:
            self.refused("BadText", read_sheet, text)

    def test_bad_formula(self):
        for text in [
                "1" + "0" * 59 + "01", "9" * 61, "9" * 3900, "\"" + "x" * 41 + "\"", "sum(a1:z99)", "find(1, a1:d76)", "-" * 12 + "1",
                "1" + "+1" * 30, "1" + "+1" * 1500, "(" * 12 + "-" * 3000 + "1" + ")" * 12]:
            self.refused("BadFormula", read_sheet, "a1 = " + text)
        self.assertEqual(read_sheet("a1 = 1" + "0" * 60 + "\na2 = " + "-" * 11 + "1")[(0, 0)], num(GREAT))
        self.assertEqual(len(read_sheet("a1 = sum(a1:d75)")), 1)

    def test_bad_content(self):
        for text in [
                "1" + "0" * 59 + "1", "-1" + "0" * 59 + "1", "1" + "0" * 61, "9" * 3900, "-" + "9" * 3900, "\"" + "x" * 41 + "\"", "\"%\"",
                "\"a%b\"", "\"\u00e9\"", "\"\t\"", "\"" + "x" * 3900 + "\""]:
            self.refused("BadContent", read_sheet, "a1 " + text)

    def test_the_bounds_of_numbers(self):
        for text in ["1" + "0" * 59 + "1", "2" + "0" * 60, "1" + "0" * 61]:
            self.refused("BadContent", read_sheet, "a1 " + text)
            self.refused("BadContent", read_sheet, "a1 -" + text)

    def test_a_cell_that_stands_twice(self):
        for text in ["a1 5\na1 6", "a1 5\na1 5", "a1 5\na2 6\na1 = b1", "a1 \"x\"\na1 \"x\""]:
            self.refused("BadContent", read_sheet, text)

    def test_full(self):
        rows = [name + str(row) + " 5" for row in range(1, 51) for name in "abcd"]
        self.assertEqual(len(read_sheet("\n".join(rows))), 200)
        self.refused("Full", read_sheet, "\n".join(rows + ["e1 5"]))
        self.refused("Full", read_sheet, "\n".join(["e1 = a1"] + rows))
        self.refused("Full", read_sheet, "\n".join(rows + ["e" + str(row) + " 5" for row in range(1, 99)]))

    def test_which_refusal_goes_first(self):
        full = "\n".join(["h" + str(row) + " 1" for row in range(1, 100)] + ["i" + str(row) + " 1" for row in range(1, 100)]
                         + ["j" + str(row) + " 1" for row in range(1, 10)])
        twice = "h1 1\nh1 1"
        ordered = [("BadText", [BAD_TEXT, "", "b1"]), ("BadFormula", [BAD_FORMULA]), ("BadContent", [BAD_CONTENT, "b4 " + "9" * 70, twice]),
                   ("Full", [full])]
        for number, (name, texts) in enumerate(ordered):
            for text in texts:
                for _, others in ordered[number + 1:]:
                    for other in others:
                        self.refused(name, read_sheet, "c1 5\n" + text + "\n" + other)
                        self.refused(name, read_sheet, other + "\n" + text + "\nc1 5")

    def test_which_goes_first_within_one_row(self):
        # A name that is none, beside contents that would be refused otherwise.
        for content in ["= sum(a1:z99)", "\"%\"", "9" * 70]:
            self.refused("BadText", read_sheet, "a0 " + content)
        self.refused("BadText", read_sheet, "a1 = sum(a1:z99) + x")
        self.refused("BadText", read_sheet, "a1 = " + "9" * 70 + " +")
        self.refused("BadText", read_sheet, "a1 = \"%\" + " + "9" * 70)

    def test_what_is_told_is_the_askers_own(self):
        read_sheet("a1 5").clear()
        self.assertEqual(read_sheet("a1 5"), {(0, 0): 5})

    def test_contents_by_chance(self):
        chance = random.Random(172)
        for _ in range(300):
            content = some_content(chance, deep=7)
            self.assertEqual(read_sheet(sheet_text({(3, 3): content})), {(3, 3): content})


if __name__ == "__main__":
    unittest.main()
