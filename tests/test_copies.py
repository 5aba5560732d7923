"""Promises 9.1 and 9.3: formulas and blocks copied."""

import copy
import random
import unittest

from helper import RefusalChecks, cells_by, sheet_by, some_formula, some_sheet, spot
from onelook.areas import is_area, read_area
from onelook.copies import block_changes, copied
from onelook.formulas import made_formula
from onelook.formulatext import formula_text, read_formula
from onelook.places import is_place
from onelook.sheets import with_cells


def slow_copied(formula, down, right):
    """Word by word, the numbers stepped one by one."""
    word = formula[0]
    if word in ("at", "sum", "count", "least", "greatest", "find"):
        numbers, pins = formula[-2:]
        steps = [down, right, down, right]
        told = tuple(number + (0 if pins[turn] else steps[turn]) for turn, number in enumerate(numbers))
        if not (is_place(told) if word == "at" else is_area(told)):
            return ("lost",)
        parts = tuple(slow_copied(part, down, right) for part in formula[1:-2])
        return (word,) + parts + (told, pins)
    return tuple(slow_copied(part, down, right) if isinstance(part, tuple) else part for part in formula)


class Copied(unittest.TestCase):
    def assert_copied(self, text, here, there, due):
        formula = read_formula(text)
        self.assertEqual(formula_text(copied(formula, spot(here), spot(there))), due, (text, here, there))
        self.assertEqual(formula, read_formula(text))

    def test_each_pin(self):
        for text, due in (("c4", "e7"), ("$c4", "$c7"), ("c$4", "e$4"), ("$c$4", "$c$4")):
            self.assert_copied(text, "b2", "d5", due)
        for text, due in (
            ("sum(b2:d5)", "sum(d5:f8)"), ("sum($b2:d5)", "sum($b5:f8)"), ("sum(b$2:d5)", "sum(d$2:f8)"), ("sum(b2:$f5)", "sum(d5:$f8)"),
            ("sum(b2:d$9)", "sum(d5:f$9)"), ("sum($b$2:$d$5)", "sum($b$2:$d$5)"), ("find(a1, $b2:d$9)", "find(c4, $b5:f$9)"),
        ):
            self.assert_copied(text, "b2", "d5", due)

    def test_each_direction(self):
        for there, due in (("e5", "f6"), ("e6", "f7"), ("e4", "f5"), ("f5", "g6"), ("d5", "e6"), ("a1", "b2"), ("y98", "z99")):
            self.assert_copied("f6", "e5", there, due)
            self.assert_copied("-f6 + $a$1", "e5", there, f"-{due} + $a$1")

    def test_to_itself(self):
        chance = random.Random(81)
        for _ in range(200):
            formula = some_formula(chance, 5)
            for place in ((0, 0), (98, 25), (5, 5)):
                self.assertEqual(copied(formula, place, place), formula)

    def test_what_names_nothing(self):
        for text in ("5", '"a1"', "lost", "not(1) + 2", "rest(7, 2)", "if(1, 2, 3)", "else(lost, 1)"):
            self.assert_copied(text, "a1", "z99", text)
            self.assert_copied(text, "z99", "a1", text)

    def test_cells_that_would_be_none(self):
        self.assert_copied("a1 + b2", "b2", "b1", "lost + b1")
        self.assert_copied("a1 + b2", "b2", "a2", "lost + a2")
        self.assert_copied("z99 - y98", "b2", "b3", "lost - y99")
        self.assert_copied("z99 - y98", "b2", "c2", "lost - z98")
        self.assert_copied("$a1 + a$1 + $a$1", "b2", "a1", "lost + lost + $a$1")
        self.assert_copied("if(a1, lost, b9)", "b2", "b1", "if(lost, lost, b8)")

    def test_areas_that_would_be_none(self):
        self.assert_copied("sum(a1:b2)", "c2", "c1", "lost")
        self.assert_copied("sum(y98:z99) + 1", "a1", "a2", "lost + 1")
        self.assert_copied("sum(y1:z9)", "a1", "b1", "lost")
        # A loose end that comes ahead of the pinned one, or leaves more than 300 places.
        self.assert_copied("sum(a$5:a7)", "b7", "b5", "sum(a$5:a5)")
        self.assert_copied("sum(a$5:a7)", "b7", "b4", "lost")
        self.assert_copied("sum(a5:a$7)", "b1", "b3", "sum(a7:a$7)")
        self.assert_copied("sum(a5:a$7)", "b1", "b4", "lost")
        self.assert_copied("sum($c1:e1)", "f1", "d1", "sum($c1:c1)")
        self.assert_copied("sum($c1:e1)", "f1", "c1", "lost")
        self.assert_copied("sum(a$1:j29)", "k1", "k2", "sum(a$1:j30)")
        self.assert_copied("sum(a$1:j29)", "k1", "k3", "lost")
        self.assert_copied("-sum($a1:l25)", "m1", "n1", "-lost")

    def test_a_find_with_its_f(self):
        self.assert_copied("1 + find(b5, a1:b2)", "c2", "c1", "1 + lost")
        self.assert_copied("find(a1, b5:c9)", "c2", "c1", "find(lost, b4:c8)")
        self.assert_copied("find(find(b5, a1:b2), b5:c9)", "c2", "c1", "find(lost, b4:c8)")

    def test_by_chance(self):
        chance = random.Random(82)
        places = ((0, 0), (3, 2), (98, 25), (7, 7), (40, 12), (41, 13))
        for _ in range(600):
            formula = some_formula(chance, 5, places)
            here, there = chance.choice(places), chance.choice(places)
            told = copied(formula, here, there)
            self.assertEqual(told, slow_copied(formula, there[0] - here[0], there[1] - here[1]))
            if formula == made_small(formula):
                made_formula(told)


def made_small(formula):
    """The formula, if it is one by its bounds, else None."""
    try:
        return made_formula(formula)
    except ValueError:
        return None


class Blocks(RefusalChecks, unittest.TestCase):
    def assert_changes(self, told, area, place, due):
        sheet = sheet_by(told)
        before = copy.deepcopy(sheet)
        block_changes(sheet, read_area(area), spot(place)).clear()
        changes = block_changes(sheet, read_area(area), spot(place))
        self.assertEqual(changes, cells_by(due))
        self.assertEqual(sheet, before)

    def test_each_kind_of_content(self):
        told = {"a1": 5, "b1": "x", "a2": "= a1 + $b$1", "c1": 7, "d4": 9}
        self.assert_changes(told, "a1:b2", "d4", {"d4": 5, "e4": "x", "d5": "= d4 + $b$1", "e5": None})
        self.assert_changes(told, "a1:a1", "z99", {"z99": 5})
        self.assert_changes(told, "a2:a2", "b3", {"b3": "= b2 + $b$1"})
        self.assert_changes(told, "k1:l2", "a1", {"a1": None, "b1": None, "a2": None, "b2": None})
        self.assert_changes({}, "a1:a2", "a1", {"a1": None, "a2": None})

    def test_each_formula_by_as_far_as_it_goes(self):
        self.assert_changes({"a1": "= b2", "b2": "= a1"}, "a1:b2", "b1", {"b1": "= c2", "c1": None, "b2": None, "c2": "= b1"})
        self.assert_changes({"b1": "= a1", "b2": "= a1"}, "b1:b2", "a1", {"a1": "= lost", "a2": "= lost"})
        self.assert_changes({"b2": "= find(a1, a2:b3)"}, "b2:b2", "b1", {"b1": "= find(lost, a1:b2)"})

    def test_areas_that_meet(self):
        told = {"a1": 1, "a2": 2, "a3": 3, "b1": "= a1"}
        self.assert_changes(told, "a1:a3", "a2", {"a2": 1, "a3": 2, "a4": 3})
        self.assert_changes(told, "a2:a3", "a1", {"a1": 2, "a2": 3})
        self.assert_changes(told, "a1:b2", "b1", {"b1": 1, "c1": "= b1", "b2": 2, "c2": None})
        self.assert_changes(told, "a1:b3", "a1", {"a1": 1, "b1": "= a1", "a2": 2, "b2": None, "a3": 3, "b3": None})

    def test_at_the_last_lines(self):
        told = {"a1": 1, "b2": "= a1"}
        self.assert_changes(told, "a1:b2", "y98", {"y98": 1, "z98": None, "y99": None, "z99": "= y98"})
        for place in ("z98", "y99", "z99"):
            self.refused("NoRoom", block_changes, sheet_by(told), read_area("a1:b2"), spot(place))
        self.assert_changes(told, "a1:b1", "y99", {"y99": 1, "z99": None})
        self.refused("NoRoom", block_changes, sheet_by(told), (0, 0, 98, 0), (1, 0))
        self.assertEqual(len(block_changes({}, (0, 0, 98, 2), (0, 23))), 297)
        self.assertEqual(len(block_changes({}, (0, 0, 11, 24), (87, 1))), 300)
        self.refused("NoRoom", block_changes, {}, (0, 0, 11, 24), (87, 2))

    def test_refusals_in_their_order(self):
        no_areas = ((0, 0, 42, 6), (1, 0, 0, 0), (0, 1, 0, 0), (-1, 0, 0, 0), (0, 0, 99, 0), (0, 0, 0, 26), (10 ** 59, 0, 10 ** 59, 0))
        no_places = ((99, 0), (0, 26), (-1, 0), (0, -1), (10 ** 59, -10 ** 59))
        sheet = sheet_by({"a1": 1, "b2": "= a1"})
        before = copy.deepcopy(sheet)
        for area in no_areas:
            for place in ((0, 0), (98, 25)) + no_places:
                self.refused("BadArea", block_changes, sheet, area, place)
        for area in ((0, 0, 0, 0), (0, 0, 98, 0), (98, 25, 98, 25)):
            for place in no_places:
                self.refused("BadPlace", block_changes, sheet, area, place)
        self.assertEqual(sheet, before)

    def test_by_chance(self):
        chance = random.Random(83)
        for _ in range(200):
            sheet = some_sheet(chance)
            top, left, place = chance.randrange(3), chance.randrange(3), (chance.randrange(6), chance.randrange(6))
            area = (top, left, top + chance.randrange(3), left + chance.randrange(3))
            changes = block_changes(sheet, area, place)
            due = {}
            for row in range(area[2] - top + 1):
                for column in range(area[3] - left + 1):
                    here, there = (top + row, left + column), (place[0] + row, place[1] + column)
                    content = sheet.get(here)
                    due[there] = copied(content, here, there) if isinstance(content, tuple) else content
            self.assertEqual(changes, due)
            with_cells(sheet, changes)


if __name__ == "__main__":
    unittest.main()
