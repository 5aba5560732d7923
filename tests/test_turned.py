"""Promises 7.3 and 7.4: formulas turned and sheets shifted by rows and columns put in and taken out."""

import copy
import random
import unittest

from helper import RefusalChecks, sheet_by, some_formula, some_sheet
from onelook.formulas import made_formula
from onelook.formulatext import formula_text, read_formula
from onelook.shifts import back_shift, moved_area, moved_place
from onelook.turned import shifted, turned

WAYS = ("rows in", "rows out", "columns in", "columns out")


class Turned(RefusalChecks, unittest.TestCase):
    def assert_turned(self, shift, text, due):
        formula = read_formula(text)
        self.assertEqual(formula_text(turned(shift, formula)), due, (shift, text))
        self.assertEqual(formula, read_formula(text))

    def assert_no_room(self, shift, text):
        self.refused("NoRoom", turned, shift, read_formula(text))

    def test_what_names_nothing(self):
        for way in WAYS:
            for text in ("0", "12", '"b5"', "lost", "-1", "not(1)", "1 + 2", "rest(7, 2)", "if(1, 2, 3)", "else(lost, 1)"):
                self.assert_turned((way, 0, 20), text, text)

    def test_each_kind_by_each_way(self):
        for shift, texts in (
            (("rows in", 4, 2), {
                "b4": "b4", "b5": "b7", "-b5": "-b7", "not(b9)": "not(b11)", "b4 + b5": "b4 + b7", "b5 & b5": "b7 & b7",
                "rest(b5, b6)": "rest(b7, b8)", "if(b4, b5, b6)": "if(b4, b7, b8)", "else(b5, c1)": "else(b7, c1)",
                "sum(b2:d5)": "sum(b2:d7)", "count(b2:d4)": "count(b2:d4)", "least(b5:d9)": "least(b7:d11)",
                "greatest(b4:d5)": "greatest(b4:d7)", "find(b5, b2:d5)": "find(b7, b2:d7)"}),
            (("rows out", 4, 2), {
                "b4": "b4", "b5": "lost", "b6": "lost", "b7": "b5", "-b6": "-lost", "not(b7)": "not(b5)", "b4 + b5": "b4 + lost",
                "b5 < b7": "lost < b5", "rest(b7, b6)": "rest(b5, lost)", "if(b4, b5, b7)": "if(b4, lost, b5)",
                "else(b5, b7)": "else(lost, b5)", "sum(b2:d5)": "sum(b2:d4)", "count(b5:d6)": "lost", "least(b5:d7)": "least(b5:d5)",
                "greatest(b7:d9)": "greatest(b5:d7)", "find(b5, b2:d9)": "find(lost, b2:d7)", "find(b7, b5:d6)": "lost",
                "find(b7, b5:d5)": "lost", "find(b7, b6:d7)": "find(b5, b5:d5)", "sum(b4:d7)": "sum(b4:d5)", "sum(b5:d5)": "lost"}),
            (("columns in", 3, 2), {
                "c4": "c4", "d4": "f4", "-d4": "-f4", "not(e9)": "not(g9)", "c4 * d5": "c4 * f5", "rest(d5, e6)": "rest(f5, g6)",
                "if(c4, d5, e6)": "if(c4, f5, g6)", "else(d5, c1)": "else(f5, c1)", "sum(b2:d5)": "sum(b2:f5)",
                "count(b2:c4)": "count(b2:c4)", "least(d5:e9)": "least(f5:g9)", "find(d1, c2:d5)": "find(f1, c2:f5)"}),
            (("columns out", 3, 2), {
                "c4": "c4", "d4": "lost", "e4": "lost", "f4": "d4", "-e6": "-lost", "c4 = d5": "c4 = lost", "rest(f7, e6)": "rest(d7, lost)",
                "if(c4, d5, f7)": "if(c4, lost, d7)", "else(d5, f7)": "else(lost, d7)", "sum(b2:d5)": "sum(b2:c5)",
                "count(d5:e6)": "lost", "least(d5:f7)": "least(d5:d7)", "greatest(f7:g9)": "greatest(d7:e9)", "sum(d1:d9)": "lost"}),
        ):
            for text, due in texts.items():
                self.assert_turned(shift, text, due)

    def test_pins_stay_and_do_not_hold(self):
        self.assert_turned(("rows in", 0, 1), "$b$5 + b$5 + $b5 + sum($b$2:$d$5) + sum(b$2:$d5)",
                           "$b$6 + b$6 + $b6 + sum($b$3:$d$6) + sum(b$3:$d6)")
        self.assert_turned(("columns out", 0, 1), "$b$5 + find(c$1, $b2:d$5)", "$a$5 + find(b$1, $a2:c$5)")
        self.assert_turned(("rows out", 4, 1), "$b$5 + sum($b$5:$d$5)", "lost + lost")

    def test_a_find_that_loses_its_first_or_last_column(self):
        for shift, due in (
            (("columns out", 1, 1), "lost"), (("columns out", 4, 1), "lost"), (("columns out", 0, 2), "lost"), (("columns out", 4, 3), "lost"),
            (("columns out", 1, 4), "lost"), (("columns out", 1, 2), "lost"), (("columns out", 3, 2), "lost"), (("columns out", 0, 26), "lost"),
            (("columns out", 2, 2), "find(e9, b2:c5)"), (("columns out", 2, 1), "find(f9, b2:d5)"),
            (("columns out", 0, 1), "find(f9, a2:d5)"), (("columns out", 5, 1), "find(f9, b2:e5)"),
        ):
            # The f goes with it, whatever it is.
            self.assert_turned(shift, "find(g9, b2:e5)", due)
            self.assert_turned(shift, "1 + find(g9, b2:e5)", "1 + " + due)
        self.assert_turned(("columns out", 1, 1), "2 * find(find(g9, c2:d3), b2:e5)", "2 * lost")
        self.assert_turned(("columns out", 2, 1), "2 * find(find(g9, c2:d3), b2:e5)", "2 * find(lost, b2:d5)")
        self.assert_turned(("columns out", 6, 1), "find(g9, b2:e5)", "find(lost, b2:e5)")
        self.assert_turned(("columns out", 1, 1), "sum(b2:e5)", "sum(b2:d5)")
        self.assert_turned(("columns out", 1, 1), "find(1, b2:b5)", "lost")
        # Rows taken from its ends only make it shorter.
        self.assert_turned(("rows out", 1, 1), "find(1, b2:e5)", "find(1, b2:e4)")
        self.assert_turned(("rows out", 4, 1), "find(1, b2:e5)", "find(1, b2:e4)")

    def test_a_find_within_what_stays(self):
        self.assert_turned(("columns out", 1, 1), "if(find(1, b2:e5), find(find(b1, b1:c9), c2:d5), a1)",
                           "if(lost, find(lost, b2:c5), a1)")

    def test_no_room(self):
        self.assert_turned(("rows in", 0, 1), "a98", "a99")
        for text in ("a99", "1 + a99", "if(0, a99, 1)", "sum(a98:a99)", "find(1, a1:b99)", "find(a99, a1:b2)", "-(z99)"):
            self.assert_no_room(("rows in", 0, 1), text)
            self.assert_no_room(("rows in", 98, 1), text)
        self.assert_turned(("columns in", 25, 1), "y1 + sum(a1:y1)", "y1 + sum(a1:y1)")
        for text in ("z1", "sum(z1:z9)", "sum(y1:z1)", "find(z5, a1:b2)"):
            self.assert_no_room(("columns in", 25, 1), text)
            self.assert_no_room(("columns in", 2, 10 ** 59), text)
        self.assert_turned(("columns in", 2, 10 ** 59), "a1 + sum(a1:b9)", "a1 + sum(a1:b9)")

    def test_no_room_for_more_than_300_places(self):
        self.assert_turned(("rows in", 1, 2), "sum(a1:y10)", "sum(a1:y12)")
        for text in ("sum(a1:y10)", "count($a$1:$y$10)", "find(1, a1:y10)", "b1 + least(a1:y10)"):
            self.assert_no_room(("rows in", 1, 3), text)
        self.assert_turned(("rows in", 0, 3), "sum(a1:y10)", "sum(a4:y13)")
        self.assert_no_room(("columns in", 2, 1), "sum(a1:c99)")

    def test_taking_out_has_always_room(self):
        chance = random.Random(51)
        for _ in range(500):
            formula = some_formula(chance, 5, ((0, 0), (3, 2), (5, 9), (98, 25), (97, 3)))
            way = chance.choice(["rows out", "columns out"])
            at = chance.choice([0, 1, 2, 3, 5, 24])
            told = turned((way, at, chance.choice([1, 2])), formula)
            made_formula(told)

    def test_by_chance(self):
        chance = random.Random(52)
        places = ((0, 0), (3, 2), (5, 9), (8, 4), (6, 6))
        for _ in range(500):
            formula = some_formula(chance, 5, places)
            way, at, many = chance.choice(WAYS), chance.randrange(12), chance.choice([1, 2, 5])
            if way == "rows in" and many == 5:
                many = 3
            shift = (way, at, many)
            self.assertEqual(turned(shift, formula), slow_turned(shift, formula))
            if way.endswith("in"):
                self.assertEqual(turned(back_shift(shift), turned(shift, formula)), formula)


def slow_turned(shift, formula):
    """The same by another road: entry by entry, each by what kind of thing it is."""
    if formula[0] == "at":
        place = moved_place(shift, formula[1])
        return ("at", place, formula[2]) if place else ("lost",)
    entries = []
    for number, entry in enumerate(formula):
        if isinstance(entry, tuple) and isinstance(entry[0], str):
            entry = slow_turned(shift, entry)
        elif isinstance(entry, tuple) and number == len(formula) - 2:
            gone = range(shift[1], shift[1] + shift[2]) if shift[0] == "columns out" else []
            if formula[0] == "find" and (entry[1] in gone or entry[3] in gone):
                return ("lost",)
            entry = moved_area(shift, entry)
            if entry is None:
                return ("lost",)
        entries.append(entry)
    return tuple(entries)


class Shifted(RefusalChecks, unittest.TestCase):
    def assert_shifted(self, told, shift, due):
        sheet = sheet_by(told)
        before = copy.deepcopy(sheet)
        now = shifted(sheet, shift)
        self.assertEqual(now, sheet_by(due))
        self.assertEqual(sheet, before)
        self.assertIsNot(now, sheet)
        now.clear()
        self.assertEqual(shifted(sheet, shift), sheet_by(due))

    def test_cells_taken_out_moved_and_left(self):
        told = {"a1": 5, "a2": "x", "b3": "= a1 + a2 + a4", "a4": "= b3", "c9": "= sum(a1:b4)", "c2": "= z9 + a99"}
        self.assert_shifted(told, ("rows out", 1, 1), {"a1": 5, "b2": "= a1 + lost + a3", "a3": "= b2", "c8": "= sum(a1:b3)"})
        self.assert_shifted(told, ("rows out", 1, 3), {"a1": 5, "c6": "= sum(a1:b1)"})
        self.assert_shifted(told, ("rows out", 0, 99), {})
        self.assert_shifted(told, ("rows out", 20, 9), dict(told, c2="= z9 + a90"))
        self.assert_shifted(told, ("columns out", 0, 1), {"a3": "= lost + lost + lost", "b9": "= sum(a1:a4)", "b2": "= y9 + lost"})
        self.assert_shifted({"a1": 5, "a2": "x", "b3": "= a2"}, ("rows in", 1, 2), {"a1": 5, "a4": "x", "b5": "= a4"})
        self.assert_shifted({"a1": 5, "b2": "x", "c3": "= sum(a1:b2)"}, ("columns in", 1, 3),
                            {"a1": 5, "e2": "x", "f3": "= sum(a1:e2)"})
        self.assert_shifted({}, ("rows in", 0, 10 ** 59), {})

    def test_a_formula_that_is_taken_out_loses_nothing_more(self):
        self.assert_shifted({"a1": "= a2", "a2": "= a1"}, ("rows out", 0, 1), {"a1": "= lost"})

    def test_no_room_for_a_filled_cell(self):
        for content in (5, "x", "= 1"):
            for shift in (("rows in", 0, 1), ("rows in", 98, 1), ("rows in", 5, 10 ** 59)):
                self.refused("NoRoom", shifted, sheet_by({"a99": content}), shift)
            for shift in (("columns in", 0, 1), ("columns in", 25, 1), ("columns in", 20, 6)):
                self.refused("NoRoom", shifted, sheet_by({"a1": 1, "z7": content}), shift)
        self.assert_shifted({"a98": 5}, ("rows in", 0, 1), {"a99": 5})
        self.assert_shifted({"y1": "= y1"}, ("columns in", 24, 1), {"z1": "= z1"})

    def test_no_room_for_a_formula(self):
        for text, shift in (("= a99", ("rows in", 50, 1)), ("= sum(z1:z2)", ("columns in", 1, 1)), ("= sum(a1:y12)", ("rows in", 5, 1))):
            sheet = sheet_by({"a1": text, "b1": 5})
            before = copy.deepcopy(sheet)
            self.refused("NoRoom", shifted, sheet, shift)
            self.assertEqual(sheet, before)

    def test_put_in_and_taken_out_again(self):
        chance = random.Random(53)
        for _ in range(300):
            sheet = some_sheet(chance)
            shift = (chance.choice(["rows in", "columns in"]), chance.randrange(6), chance.randrange(1, 20))
            before = copy.deepcopy(sheet)
            now = shifted(sheet, shift)
            self.assertEqual(shifted(now, back_shift(shift)), sheet)
            self.assertEqual(len(now), len(sheet))
            self.assertEqual(sheet, before)

    def test_by_chance(self):
        chance = random.Random(54)
        for _ in range(300):
            sheet = some_sheet(chance)
            shift = (chance.choice(WAYS), chance.randrange(6), chance.randrange(1, 5))
            due = {}
            for place, content in sheet.items():
                if moved_place(shift, place) is not None:
                    due[moved_place(shift, place)] = turned(shift, content) if isinstance(content, tuple) else content
            self.assertEqual(shifted(sheet, shift), due)


if __name__ == "__main__":
    unittest.main()
