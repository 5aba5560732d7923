"""Promises 6.2 and 6.4: waves, their books and their order, and what turned."""

import copy
import random
import unittest
from unittest import mock

from helper import LOOSE, RefusalChecks, at, cells_by, num, row_of, sheet_by, some_changes, some_sheet, spot
from onelook.causes import right_wave
from onelook.fresh import fresh_book, stands
from onelook.judge import right_book
from onelook.looks import look_at
from onelook.rings import ranks_by
from onelook.sheets import made_sheet, with_cells
from onelook.waves import turned_places, wave_of

WAITS = ("waits",)
NOUGHT = ("fault", "nought")
FULL = {(row, column): 1 for row in range(20) for column in range(10)}


def pairs_by(told):
    """A wave, of a text of pairs: a name and `own` or another name."""
    pairs = []
    for pair in told.split(", ") if told else []:
        name, cause = pair.split()
        pairs.append((spot(name), ("own",) if cause == "own" else ("read", spot(cause))))
    return pairs


def wave_and_looks(sheet, book, changes):
    """The wave's triple, and the list of the formulas that were looked at."""
    with mock.patch("onelook.waves.look_at", side_effect=look_at) as looked:
        told = wave_of(sheet, book, changes)
    return told, [call.args[0] for call in looked.call_args_list]


class Waves(RefusalChecks, unittest.TestCase):
    def check_wave(self, sheet, changes):
        book = fresh_book(sheet)
        handed = (sheet, book, changes)
        before = copy.deepcopy(handed)
        told = wave_of(*handed)
        self.assertEqual(wave_of(*handed), told)
        self.assertEqual(handed, before)
        self.assertIs(type(told), tuple)
        now, book_now, wave = told
        self.assertEqual(now, with_cells(sheet, changes))
        self.assertEqual(book_now, fresh_book(now))
        self.assertIs(type(wave), list)
        self.assertIs(right_wave(sheet, book, changes, book_now, wave), True)
        self.check_order(now, book_now, wave)
        return wave

    def check_order(self, now, book_now, wave):
        ranks = ranks_by(now, book_now)
        keys = [(0, ranks[place], place) if place in ranks else (1, 0, place) for place, cause in wave]
        self.assertEqual(keys, sorted(keys))
        self.assertEqual(len(set(keys)), len(keys))

    def assert_wave(self, told, changes, wave):
        self.assertEqual(self.check_wave(sheet_by(told), cells_by(changes)), pairs_by(wave))

    def test_no_changes(self):
        for told in ({}, {"a1": 5}, {"a1": 5, "b1": "= a1", "c1": "= c1"}):
            self.assert_wave(told, {}, "")
            self.assert_wave(told, told, "")
            self.assert_wave(told, {"z99": None}, "")
            self.assert_wave(told, {"z99": 5}, "")

    def test_one_place(self):
        told = {"a1": 5, "b1": "= a1 + 1", "c1": "= b1 * 2", "d1": "= c1 < 1", "e1": "= d1"}
        self.assert_wave(told, {"a1": 6}, "b1 a1, c1 b1, d1 c1")
        self.assert_wave(told, {"a1": -6}, "b1 a1, c1 b1, d1 c1, e1 d1")
        self.assert_wave(told, {"a1": None}, "b1 a1, c1 b1, d1 c1")
        self.assert_wave(told, {"a1": "= 2 + 3"}, "a1 own")
        self.assert_wave(told, {"b1": "= 6"}, "b1 own")
        self.assert_wave(told, {"b1": 7}, "c1 b1, d1 c1")
        self.assert_wave(told, {"b1": None}, "c1 b1, d1 c1, e1 d1")

    def test_many_places(self):
        told = {"a1": 5, "b1": "= a1 + 1", "c1": "= b1 * a1", "d1": "= c1"}
        self.assert_wave(told, {"a1": 6, "b1": "= a1 + 2", "d1": None, "e1": "= c1 + d1", "a2": "= 1"},
                         "b1 own, a2 own, c1 b1, e1 own")

    def test_the_order_by_rank_and_place_then_the_waiting(self):
        told = {"a1": "= b1", "b1": "= c1", "c1": "= z9", "d1": "= z9", "e5": "= z9", "b2": "= z9 + b2", "a2": "= z9 + a2"}
        self.assert_wave(told, {"z9": 1}, "c1 z9, d1 z9, e5 z9, b1 c1, a1 b1, a2 z9, b2 z9")
        self.assert_wave(told, {"z9": 1, "c1": "= c1"}, "d1 z9, e5 z9, a1 b1, b1 c1, c1 own, a2 z9, b2 z9")

    def test_the_rank_counts_as_it_is_now(self):
        told = {"a1": "= b1 + 0", "b1": "= c1", "c1": "= z9", "d1": "= z9"}
        self.assert_wave(told, {"d1": "= a1 + z9", "b1": "= z9 + 5"}, "b1 own, a1 b1, d1 own")
        self.assert_wave(told, {"z9": 1, "a1": "= 7"}, "a1 own, c1 z9, d1 z9, b1 c1")

    def test_a_ring_closed(self):
        told = {"a1": "= b1", "b1": "= c1", "c1": 5, "d1": "= a1 + c1", "e1": "= if(c1, 1, a1)"}
        self.assert_wave(told, {"c1": "= a1"}, "a1 b1, b1 c1, c1 own, d1 a1, e1 c1")
        self.assert_wave(told, {"b1": "= b1"}, "a1 b1, b1 own, d1 a1")
        # The worths that were there would hold one another up.
        self.assert_wave({"a1": "= b1", "b1": 5}, {"b1": "= a1"}, "a1 b1, b1 own")
        self.assert_wave({"a1": 5}, {"a1": "= a1"}, "a1 own")

    def test_a_ring_opened(self):
        told = {"a1": "= b1", "b1": "= c1", "c1": "= a1", "d1": "= a1 + e1", "f1": "= d1"}
        self.assert_wave(told, {"c1": 5}, "b1 c1, a1 b1, d1 a1, f1 d1")
        self.assert_wave(told, {"b1": "= if(0, c1, 4)"}, "b1 own, a1 b1, c1 a1, d1 a1, f1 d1")
        self.assert_wave(told, {"a1": None}, "c1 a1, d1 a1, b1 c1, f1 d1")
        self.assert_wave({"a1": "= if(z9, a1, 3)", "z9": 1}, {"z9": 0}, "a1 z9")

    def test_a_ring_led_elsewhere(self):
        told = {"a1": "= b1", "b1": "= a1", "c1": "= a1", "d1": "= d1", "e1": "= c1"}
        self.assert_wave(told, {"b1": "= c1"}, "b1 own")
        self.assert_wave(told, {"c1": "= d1"}, "c1 own")
        self.assert_wave(told, {"b1": "= d1", "d1": "= 7"}, "d1 own, b1 own, a1 b1, c1 a1, e1 c1")
        # One ring opened and another one closed: cells that wait as before are not touched.
        self.assert_wave({"a1": "= if(z9, b1, c1)", "b1": "= a1", "c1": "= a1", "d1": "= b1", "z9": 1}, {"z9": 0}, "a1 z9")

    def test_an_if_that_reads_elsewhere_now(self):
        told = {"a1": 1, "b1": "= if(a1, c1, d1)", "c1": "= 3", "d1": "= b1", "e1": "= b1"}
        self.assert_wave(told, {"a1": 0}, "b1 a1, d1 b1, e1 b1")
        self.assert_wave(dict(told, a1=0), {"a1": 1}, "b1 a1, d1 b1, e1 b1")

    def test_rows_of_up_to_200_cells(self):
        for many in (2, 50, 200):
            for step in (1, -1):
                order, sheet = row_of(many, step)
                root, tip = (order[-1], order[0]) if step == 1 else (order[0], order[-1])
                wave = self.check_wave(sheet, {root: 9})
                self.assertEqual(len(wave), many - 1)
                self.assertEqual(wave[-1][0], tip)
                self.assertEqual(len(self.check_wave(sheet, {root: at(*tip)})), many)
                self.assertEqual(self.check_wave(sheet, {root: 1}), [])
                ring = with_cells(sheet, {root: at(*tip)})
                self.assertEqual(len(self.check_wave(ring, {root: 1})), many - 1)

    def test_rows_of_sums(self):
        cells = [((0, 0), num(1))] + [((row, 0), ("sum", (0, 0, row - 1, 0), LOOSE)) for row in range(1, 99)]
        sheet = made_sheet(cells)
        wave = self.check_wave(sheet, {(0, 0): 2})
        self.assertEqual(wave, [((row, 0), ("read", (0, 0))) for row in range(1, 99)])
        self.assertEqual(len(self.check_wave(sheet, {(50, 0): 1})), 48)
        self.assertEqual(len(self.check_wave(sheet, {(50, 0): at(98, 0)})), 49)

    def test_by_chance(self):
        chance = random.Random(41)
        lengths = []
        for _ in range(400):
            sheet = some_sheet(chance)
            lengths.append(len(self.check_wave(sheet, some_changes(chance, sheet))))
        self.assertGreater(len(set(lengths)), 8)

    def test_waves_one_behind_another(self):
        chance = random.Random(42)
        for _ in range(20):
            sheet = some_sheet(chance)
            book = fresh_book(sheet)
            for _ in range(10):
                sheet, book, wave = wave_of(sheet, book, some_changes(chance, sheet))
                self.assertEqual(book, fresh_book(sheet))
            self.assertTrue(right_book(sheet, book))

    def test_only_touched_cells_are_looked_at(self):
        chance = random.Random(43)
        for _ in range(200):
            sheet = some_sheet(chance)
            told, looked = wave_and_looks(sheet, fresh_book(sheet), some_changes(chance, sheet))
            touched = [told[0][place] for place, cause in told[2]]
            for formula in looked:
                self.assertIn(formula, touched)
            self.assertLessEqual(len(looked), 4 * len(touched))

    def test_few_looks_for_a_row_of_200_cells(self):
        for step in (1, -1):
            order, sheet = row_of(200, step)
            root = order[-1] if step == 1 else order[0]
            told, looked = wave_and_looks(sheet, fresh_book(sheet), {root: 5})
            self.assertEqual(len(told[2]), 199)
            self.assertLessEqual(len(looked), 2 * 199)
            self.assertEqual(wave_and_looks(sheet, fresh_book(sheet), {(90, 0): None, root: 1})[1], [])

    def test_refusals(self):
        sheet = sheet_by({"a1": "= b1", "b1": 5})
        cases = [("BadPlace", {(99, 0): 1}), ("BadPlace", {(0, 26): None}), ("BadPlace", {(-1, 0): 1}),
                 ("BadContent", {(0, 0): 10 ** 60 + 1}), ("BadContent", {(0, 0): -10 ** 60 - 1}),
                 ("BadContent", {(0, 0): "a" * 41}), ("BadContent", {(0, 0): '"'}), ("BadFormula", {(0, 0): ()}),
                 ("BadFormula", {(0, 0): ("num", -1)}), ("Full", FULL | {(50, 0): 1})]
        for name, changes in cases:
            handed = (sheet, fresh_book(sheet), changes)
            before = copy.deepcopy(handed)
            self.refused(name, wave_of, *handed)
            self.assertEqual(handed, before)
            good = {(5, 5): 1, (0, 1): 6}
            self.refused(name, wave_of, sheet, fresh_book(sheet), good | changes)
        self.assertEqual(len(wave_of(FULL, {}, {(0, 0): None, (50, 0): 1})[0]), 200)

    def test_what_is_told_is_the_askers_own(self):
        sheet = sheet_by({"a1": 5, "b1": "= a1", "c1": "= c1"})
        for changes in ({}, {(0, 0): 6}):
            book = fresh_book(sheet)
            before = copy.deepcopy((sheet, book, changes))
            told = wave_of(sheet, book, changes)
            kept = copy.deepcopy(told)
            self.assertIsNot(told[0], sheet)
            self.assertIsNot(told[1], book)
            for thing in told:
                thing.clear()
            self.assertEqual((sheet, book, changes), before)
            self.assertEqual(wave_of(sheet, book, changes), kept)
            told = wave_of(sheet, book, changes)
            handed = (dict(sheet), dict(book), dict(changes))
            later = wave_of(*handed)
            for thing in handed:
                thing.clear()
            self.assertEqual(later, told)


class Turned(unittest.TestCase):
    def check(self, told, changes, turned):
        sheet = sheet_by(told)
        now = with_cells(sheet, cells_by(changes))
        handed = (sheet, fresh_book(sheet), now, fresh_book(now))
        before = copy.deepcopy(handed)
        rows = [(spot(name), one, other) for name, one, other in turned]
        self.assertEqual(turned_places(*handed), rows)
        self.assertEqual(turned_places(*handed[2:], *handed[:2]), [(place, other, one) for place, one, other in rows])
        for half in (handed[:2], handed[2:]):
            self.assertEqual(turned_places(*half, *half), [])
        turned_places(*handed).clear()
        self.assertEqual(turned_places(*handed), rows)
        self.assertEqual(handed, before)

    def test_nothing(self):
        self.check({}, {}, [])
        self.check({"a1": 5, "b1": "= a1", "c1": "= c1"}, {}, [])
        self.check({"a1": 5, "b1": "= a1"}, {"a1": "= 5", "b1": 5}, [])
        self.check({"a1": "= z9"}, {"a1": None}, [])
        self.check({"a1": "= a1"}, {"a1": "= a1 + 1"}, [])

    def test_worths(self):
        self.check({"a1": 5, "b1": "= a1 + 1", "c1": "= b1 < 9"}, {"a1": 6}, [("a1", 5, 6), ("b1", 6, 7)])
        self.check({"a1": 5}, {"a1": None, "b1": "x"}, [("a1", 5, None), ("b1", None, "x")])
        self.check({}, {"b1": "= 1 / 0", "a2": 0, "z1": ""}, [("b1", None, NOUGHT), ("z1", None, ""), ("a2", None, 0)])
        self.check({"a1": 0}, {"a1": ""}, [("a1", 0, "")])

    def test_ascending_by_place(self):
        told = {"c1": "= z9", "a2": "= z9", "b1": "= z9", "a1": "= z9", "z1": "= z9"}
        self.check(told, {"z9": 1}, [(name, None, 1) for name in ("a1", "b1", "c1", "z1", "a2", "z9")])

    def test_places_that_wait(self):
        told = {"a1": "= b1", "b1": 5, "c1": "= a1", "d1": "= b1"}
        self.check(told, {"b1": "= c1"}, [(name, 5, WAITS) for name in ("a1", "b1", "c1", "d1")])
        self.check({"a1": "= a1", "b1": "= a1 + 1"}, {"a1": 3}, [("a1", WAITS, 3), ("b1", WAITS, 4)])
        self.check({}, {"a1": "= a1"}, [("a1", None, WAITS)])
        self.check({"a1": "= a1"}, {"a1": None}, [("a1", WAITS, None)])

    def test_by_chance(self):
        chance = random.Random(44)
        for _ in range(200):
            sheet, now = some_sheet(chance), some_sheet(chance)
            book, book_now = fresh_book(sheet), fresh_book(now)
            due = []
            for place in [(row, column) for row in range(5) for column in range(5)]:
                before, behind = stands(sheet, book, place), stands(now, book_now, place)
                if before != behind:
                    due.append((place, before, behind))
            self.assertEqual(turned_places(sheet, book, now, book_now), due)


if __name__ == "__main__":
    unittest.main()
