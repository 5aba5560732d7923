"""Promise 10.4: chains, and the causes of a wave gone back."""

import copy
import itertools
import random
import unittest

from helper import SPOTS, RefusalChecks, cells_by, row_of, sheet_by, some_changes, some_sheet, spot, spots
from onelook.carried import shift_wave
from onelook.chains import causes_back, chain
from onelook.fresh import fresh_book, stands
from onelook.looks import places_read
from onelook.support import behind, support_of
from onelook.waves import wave_of

OWN = ("own",)


def slow_chain(book, place, cell):
    """All chains grown step by step until one is there: the least of the shortest."""
    grown = [[place]]
    for _ in range(len(book) + 2):
        done = [way for way in grown if way[-1] == cell]
        if done:
            return min(done)
        # Of the ways to one place the least is enough.
        best = {}
        for way in grown:
            for reader in book:
                if way[-1] in places_read(book[reader][2]):
                    best[reader] = min(best.get(reader, way + [reader]), way + [reader])
        grown = list(best.values())
    return None


class Chain(unittest.TestCase, RefusalChecks):
    def assert_chain(self, told, place, cell, names):
        found = chain(fresh_book(sheet_by(told)), spot(place), spot(cell))
        self.assertEqual(found, None if names is None else spots(names))

    def test_a_cell_to_itself(self):
        told = {"a1": "= 5", "b1": "= c1", "d1": "= d1", "e1": "= f1", "f1": "= e1"}
        for name in ["a1", "b1", "d1", "e1", "f1"]:
            self.assert_chain(told, name, name, name)

    def test_one_and_several_steps(self):
        told = {"a1": 5, "d1": "= a1", "c1": "= d1", "b1": "= c1"}
        self.assert_chain(told, "a1", "d1", "a1 d1")
        self.assert_chain(told, "a1", "c1", "a1 d1 c1")
        self.assert_chain(told, "a1", "b1", "a1 d1 c1 b1")
        self.assert_chain(told, "c1", "b1", "c1 b1")

    def test_blank_places_and_areas(self):
        told = {"b1": "= sum(e1:e5)", "c1": "= b1", "d1": "= find(1, c1:c4)", "c3": 1}
        self.assert_chain(told, "e3", "c1", "e3 b1 c1")
        self.assert_chain(told, "e3", "d1", "e3 b1 c1 d1")
        self.assert_chain(told, "c2", "d1", "c2 d1")
        self.assert_chain(told, "c4", "d1", None)

    def test_as_short_as_any(self):
        told = {"a1": 5, "b1": "= a1", "c1": "= b1", "d1": "= c1 + a1", "e1": "= d1 + b1"}
        self.assert_chain(told, "a1", "d1", "a1 d1")
        self.assert_chain(told, "a1", "e1", "a1 b1 e1")

    def test_the_first_of_those_as_short(self):
        told = {"a1": 5, "b1": "= a1", "c1": "= a1", "d1": "= c1 + b1"}
        self.assert_chain(told, "a1", "d1", "a1 b1 d1")
        # The first step counts ahead of the second one, the row ahead of the column.
        told = {"a1": 5, "b2": "= a1", "z1": "= a1", "c1": "= b2", "d1": "= z1", "e1": "= c1 + d1"}
        self.assert_chain(told, "a1", "e1", "a1 z1 d1 e1")
        # The least next place may lead nowhere, or further round.
        told = {"a1": 5, "b1": "= a1", "c1": "= a1", "d1": "= c1", "e1": "= b1 + z1"}
        self.assert_chain(told, "a1", "d1", "a1 c1 d1")

    def test_cells_that_are_not_behind(self):
        told = {"a1": 5, "b1": "= a1", "c1": "= if(1, 2, a1)", "d1": "= b1"}
        self.assert_chain(told, "a1", "c1", None)
        self.assert_chain(told, "d1", "b1", None)
        self.assert_chain(told, "z99", "b1", None)

    def test_cells_that_wait(self):
        told = {"a1": "= b1", "b1": "= c1", "c1": "= z9 + a1 + y9", "d1": "= c1"}
        self.assert_chain(told, "a1", "b1", "a1 c1 b1")
        self.assert_chain(told, "b1", "a1", "b1 a1")
        self.assert_chain(told, "z9", "d1", "z9 c1 d1")
        self.assert_chain(told, "y9", "d1", None)
        self.assert_chain(told, "a1", "d1", "a1 c1 d1")
        self.assert_chain(told, "d1", "a1", None)

    def test_rows_of_cells(self):
        places, sheet = row_of(200, 1)
        book = fresh_book(sheet)
        self.assertEqual(chain(book, places[-1], places[0]), places[::-1])
        self.assertEqual(chain(book, places[120], places[7]), places[7:121][::-1])
        self.assertIsNone(chain(book, places[0], places[-1]))

    def test_no_cell(self):
        book = fresh_book(sheet_by({"a1": 5, "b1": "= a1"}))
        for name in ["a1", "c1", "z99"]:
            self.refused("NoCell", chain, book, (0, 0), spot(name))
            self.refused("NoCell", chain, book, spot(name), spot(name))
        self.refused("NoCell", chain, {}, (0, 0), (0, 0))

    def test_sheets_by_chance(self):
        chance = random.Random(111)
        long_ones = 0
        for _ in range(60):
            book = fresh_book(some_sheet(chance))
            kept = copy.deepcopy(book)
            for place, cell in itertools.product(SPOTS, sorted(book)):
                told = chain(book, place, cell)
                self.assertEqual(told, slow_chain(book, place, cell))
                self.assertEqual(told is not None, cell in behind(book, place))
                self.assertEqual(told is not None, place in support_of(book, cell))
                long_ones += told is not None and len(told) > 3
            self.assertEqual(book, kept)
        self.assertGreater(long_ones, 50)

    def test_the_list_is_the_askers_own(self):
        book = fresh_book(sheet_by({"a1": "= b1"}))
        chain(book, (0, 1), (0, 0)).clear()
        self.assertEqual(chain(book, (0, 1), (0, 0)), spots("b1 a1"))


class CausesBack(unittest.TestCase, RefusalChecks):
    def wave(self, told, changes):
        sheet = sheet_by(told)
        behind_it = wave_of(sheet, fresh_book(sheet), cells_by(changes))
        return behind_it[1], behind_it[2]

    def assert_back(self, told, changes, name, names):
        book, wave = self.wave(told, changes)
        self.assertEqual(causes_back(book, wave, spot(name)), spots(names))

    def test_by_its_own_formula(self):
        self.assert_back({"a1": 5}, {"b1": "= a1"}, "b1", "b1")
        # Also where what it reads has turned too.
        self.assert_back({"a1": 5, "b1": "= a1"}, {"a1": 6, "b1": "= a1 + 1"}, "b1", "b1")

    def test_by_a_changed_place(self):
        self.assert_back({"a1": 5, "b1": "= a1"}, {"a1": 6}, "b1", "b1 a1")
        self.assert_back({"a1": "= 5", "b1": "= a1"}, {"a1": None}, "b1", "b1 a1")

    def test_over_several_cells(self):
        told = {"a1": 5, "d1": "= a1", "c1": "= d1 + a1", "b1": "= z9 + c1 + d1"}
        self.assert_back(told, {"a1": 6}, "d1", "d1 a1")
        self.assert_back(told, {"a1": 6}, "c1", "c1 d1 a1")
        self.assert_back(told, {"a1": 6}, "b1", "b1 c1 d1 a1")
        self.assert_back(told, {"a1": 6, "z9": 1}, "b1", "b1 z9")
        # It ends at the first with its own cause, though this one reads on.
        self.assert_back(told, {"a1": 6, "d1": "= a1 + 1"}, "b1", "b1 c1 d1")
        self.assert_back(told, {"d1": 9}, "b1", "b1 c1 d1")

    def test_rings(self):
        told = {"a1": "= b1", "b1": "= c1", "c1": "= if(z9, 5, a1)", "d1": "= a1"}
        self.assert_back(told, {"z9": 1}, "d1", "d1 a1 b1 c1 z9")
        told["z9"] = 1
        self.assert_back(told, {"z9": None}, "d1", "d1 a1 b1 c1 z9")
        self.assert_back(told, {"c1": "= a1"}, "d1", "d1 a1 b1 c1")

    def test_rows_of_cells(self):
        places, sheet = row_of(200, 1)
        _, book, wave = wave_of(sheet, fresh_book(sheet), {places[-1]: ("num", 9)})
        self.assertEqual(causes_back(book, wave, places[0]), places)
        _, book, wave = wave_of(sheet, fresh_book(sheet), {places[-1]: 9})
        self.assertEqual(causes_back(book, wave, places[0]), places)

    def test_no_cell(self):
        book, wave = self.wave({"a1": 5, "b1": "= a1", "c1": "= 9", "d1": "= c1"}, {"a1": 6})
        for name in ["a1", "c1", "d1", "z99"]:
            self.refused("NoCell", causes_back, book, wave, spot(name))
        self.refused("NoCell", causes_back, {}, [], (0, 0))

    def test_the_wave_of_a_shift(self):
        sheet = sheet_by({"a1": 5, "b1": "= a1", "c1": "= b1"})
        _, book, wave = shift_wave(sheet, fresh_book(sheet), ("columns out", 0, 1))
        self.assertEqual(causes_back(book, wave, spot("c1")), spots("c1 b1"))

    def test_sheets_by_chance(self):
        chance = random.Random(112)
        long_ones = 0
        for _ in range(300):
            sheet = some_sheet(chance)
            book = fresh_book(sheet)
            changes = some_changes(chance, sheet)
            sheet_now, book_now, wave = wave_of(sheet, book, changes)
            kept = copy.deepcopy((book_now, wave))
            causes = dict(wave)
            for place, cause in wave:
                way = causes_back(book_now, wave, place)
                self.assertEqual(causes_back(book_now, tuple(wave), place), way)
                self.assertEqual((way[0], len(way)), (place, len(set(way))))
                for one, other in zip(way, way[1:]):
                    self.assertEqual(causes[one], ("read", other))
                    self.assertNotEqual(stands(sheet, book, other), stands(sheet_now, book_now, other))
                self.assertIn(causes.get(way[-1], OWN), [OWN])
                self.assertIn(way[-1], changes)
                long_ones += len(way) > 3
            self.assertEqual((book_now, wave), kept)
        self.assertGreater(long_ones, 30)


if __name__ == "__main__":
    unittest.main()
