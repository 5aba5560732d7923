"""Promises 4.1 and, of 6.1, what changes are: sheets, their cells and their refusals."""

import copy
import unittest

from helper import FREE, LOOSE, RefusalChecks, at, nested, num, spread
from onelook.sheets import formula_places, made_sheet, with_cells

TOP = 10 ** 60
FORMULA = ("+", at(0, 0), num(1))
GOOD = (0, 1, -1, TOP, -TOP, "", "a", "a" * 40, " ~", "=1", FORMULA, ("lost",), ("sum", (0, 0, 11, 24), LOOSE),
        nested("minus", 12), spread(60), num(TOP))
BAD_CONTENTS = (TOP + 1, -TOP - 1, 10 ** 61, "a" * 41, 'a"b', "%", "50%", "a\n", "\t", "\x7f", "\x1f", "\xe9", "a" * 4000)
BAD_FORMULAS = ((), ("num",), ("num", -1), ("num", TOP + 1), ("text", "%"), ("at", (99, 0), FREE), (1, 2), ("foo", 1),
                ("sum", (0, 0, 42, 6), LOOSE), nested("minus", 13), spread(61), ("minus", ("minus", ())), ((0, 0), 1))
BAD_PLACES = ((-1, 0), (0, -1), (99, 0), (0, 26), (10 ** 59, 0), (0, -10 ** 59))


def places(many):
    return [(number // 26, number % 26) for number in range(many)]


class Made(RefusalChecks, unittest.TestCase):
    def test_empty(self):
        self.assertEqual(made_sheet([]), {})
        self.assertEqual(made_sheet(()), {})
        self.assertEqual(with_cells({}, {}), {})

    def test_each_content(self):
        for content in GOOD:
            self.assertEqual(made_sheet([((3, 4), content)]), {(3, 4): content})
            self.assertEqual(made_sheet((((3, 4), content),)), {(3, 4): content})
            self.assertEqual(with_cells({}, {(3, 4): content}), {(3, 4): content})

    def test_each_corner(self):
        cells = [((0, 0), 1), ((98, 0), 2), ((0, 25), 3), ((98, 25), 4)]
        self.assertEqual(made_sheet(cells), dict(cells))
        self.assertEqual(with_cells({}, dict(cells)), dict(cells))

    def test_the_later_one_counts(self):
        self.assertEqual(made_sheet([((0, 0), 1), ((1, 1), 2), ((0, 0), "a")]), {(0, 0): "a", (1, 1): 2})
        self.assertEqual(made_sheet([((0, 0), 1), ((0, 0), None)]), {})
        self.assertEqual(made_sheet([((0, 0), None), ((0, 0), 1)]), {(0, 0): 1})
        self.assertEqual(made_sheet([((0, 0), 1), ((0, 0), None), ((0, 0), FORMULA)]), {(0, 0): FORMULA})
        self.assertEqual(made_sheet([((0, 0), None)]), {})

    def test_each_is_looked_at_though_a_later_one_counts(self):
        for content in BAD_CONTENTS:
            self.refused("BadContent", made_sheet, [((0, 0), content), ((0, 0), 1)])
            self.refused("BadContent", made_sheet, [((0, 0), content), ((0, 0), None)])
        for content in BAD_FORMULAS:
            self.refused("BadFormula", made_sheet, [((0, 0), content), ((0, 0), 1)])

    def test_refusals(self):
        for content in BAD_CONTENTS:
            self.refused("BadContent", made_sheet, [((1, 1), 1), ((0, 0), content)])
            self.refused("BadContent", with_cells, {(1, 1): 1}, {(0, 0): content})
        for content in BAD_FORMULAS:
            self.refused("BadFormula", made_sheet, [((1, 1), 1), ((0, 0), content)])
            self.refused("BadFormula", with_cells, {(1, 1): 1}, {(0, 0): content})
        for place in BAD_PLACES:
            for content in GOOD + (None,):
                self.refused("BadPlace", made_sheet, [((1, 1), 1), (place, content)])
                self.refused("BadPlace", with_cells, {(1, 1): 1}, {place: content})

    def test_of_one_cell_the_place_is_told_first(self):
        for place in BAD_PLACES:
            for content in BAD_CONTENTS + BAD_FORMULAS:
                self.refused("BadPlace", made_sheet, [(place, content)])
                self.refused("BadPlace", with_cells, {}, {place: content})


class Filled(RefusalChecks, unittest.TestCase):
    def test_200_and_201_cells(self):
        self.assertEqual(len(made_sheet([(place, 1) for place in places(200)])), 200)
        self.refused("Full", made_sheet, [(place, 1) for place in places(201)])
        self.assertEqual(len(with_cells({}, dict.fromkeys(places(200), FORMULA))), 200)
        self.refused("Full", with_cells, {}, dict.fromkeys(places(201), FORMULA))

    def test_one_more_and_one_in_its_stead(self):
        sheet = made_sheet([(place, 1) for place in places(200)])
        self.refused("Full", with_cells, sheet, {(50, 0): 2})
        self.assertEqual(len(with_cells(sheet, {(50, 0): 2, (0, 0): None})), 200)
        self.assertEqual(len(with_cells(sheet, {(0, 0): None, (50, 0): 2})), 200)
        self.assertEqual(with_cells(sheet, {(0, 0): 9})[(0, 0)], 9)
        self.assertEqual(len(with_cells(sheet, {(50, 0): None})), 200)

    def test_only_what_is_filled_in_the_end_counts(self):
        many = [(place, 1) for place in places(300)]
        cleared = [(place, None) for place in places(100)]
        self.assertEqual(len(made_sheet(many + cleared)), 200)
        self.refused("Full", made_sheet, many + cleared[1:])
        self.assertEqual(len(made_sheet([((0, 0), number) for number in range(500)])), 1)
        self.assertEqual(made_sheet([(place, None) for place in places(500)]), {})

    def test_full_is_told_last(self):
        many = [(place, 1) for place in places(201)]
        for place, content, name in (((99, 0), 1, "BadPlace"), ((50, 0), "%", "BadContent"), ((50, 0), (), "BadFormula")):
            self.refused(name, made_sheet, many + [(place, content)])
            self.refused(name, made_sheet, [(place, content)] + many)
            self.refused(name, with_cells, {}, dict(many + [(place, content)]))


class Changed(RefusalChecks, unittest.TestCase):
    SHEET = {(0, 0): 1, (1, 1): "a", (2, 2): FORMULA}

    def test_with_cells(self):
        self.assertEqual(with_cells(self.SHEET, {}), self.SHEET)
        self.assertEqual(with_cells(self.SHEET, {(0, 0): 2, (5, 5): "b", (1, 1): None, (9, 9): None}),
                         {(0, 0): 2, (2, 2): FORMULA, (5, 5): "b"})
        self.assertEqual(with_cells(self.SHEET, {place: None for place in self.SHEET}), {})
        self.assertEqual(with_cells(self.SHEET, {(2, 2): 0, (0, 0): FORMULA})[(2, 2)], 0)

    def test_what_is_handed_in_stays(self):
        sheet, changes = dict(self.SHEET), {(0, 0): None, (3, 3): 4}
        cells = [((0, 0), 1), ((0, 0), None), ((1, 1), FORMULA)]
        before = copy.deepcopy((sheet, changes, cells))
        with_cells(sheet, changes)
        made_sheet(cells)
        self.refused("BadPlace", with_cells, sheet, {(0, 0): 9, (99, 0): 1})
        self.refused("BadContent", with_cells, sheet, {(0, 0): 9, (9, 0): "%"})
        self.assertEqual((sheet, changes, cells), before)

    def test_what_is_told_is_the_askers_own(self):
        sheet = dict(self.SHEET)
        told = with_cells(sheet, {})
        self.assertIsNot(told, sheet)
        told[(0, 0)] = 99
        told.pop((1, 1))
        self.assertEqual(sheet, self.SHEET)
        self.assertEqual(with_cells(sheet, {}), self.SHEET)
        cells = [((0, 0), 1)]
        made = made_sheet(cells)
        cells.append(((1, 1), 2))
        made[(5, 5)] = 5
        self.assertEqual(made_sheet([((0, 0), 1)]), {(0, 0): 1})


class FormulaPlaces(unittest.TestCase):
    def test_ascending(self):
        sheet = made_sheet([((9, 0), FORMULA), ((0, 9), FORMULA), ((0, 0), 1), ((0, 1), ("lost",)), ((5, 5), "a"), ((10, 0), FORMULA)])
        self.assertEqual(formula_places(sheet), [(0, 1), (0, 9), (9, 0), (10, 0)])
        self.assertEqual(formula_places({}), [])
        self.assertEqual(formula_places({(0, 0): 1, (0, 1): "b"}), [])

    def test_a_told_list_is_the_askers_own(self):
        sheet = {(0, 0): FORMULA}
        formula_places(sheet).clear()
        self.assertEqual(formula_places(sheet), [(0, 0)])


if __name__ == "__main__":
    unittest.main()
