"""Promises 10.1 to 10.3: the support of a place, sheets that agree on it, and what is behind a place."""

import copy
import random
import unittest

from helper import SPOTS, at, num, row_of, sheet_by, some_changes, some_content, some_sheet, spot, spots
from onelook.fresh import fresh_book
from onelook.sheets import made_sheet, with_cells
from onelook.support import agree, behind, support_of
from onelook.waves import wave_of

ALL_PLACES = [(row, column) for row in range(99) for column in range(26)]


def read_places(book, cell):
    """The places within the items of an entry, one by one as the promise says it."""
    places = []
    for item in book.get(cell, ("", None, ()))[2]:
        top, left, bottom, right = item[1] + item[1] if item[0] == "at" else item[1]
        for place in [(row, column) for row in range(top, bottom + 1) for column in range(left, right + 1)]:
            if place <= item[-1]:
                places.append(place)
    return places


def slow_support(book, place):
    """Round by round until nothing comes to it."""
    found = {place}
    while True:
        more = found | {read for cell in found for read in read_places(book, cell)}
        if more == found:
            return sorted(found)
        found = more


def slow_behind(book, place):
    return sorted(cell for cell in book if place in slow_support(book, cell))


class Support(unittest.TestCase):
    def assert_support(self, told, name, names):
        self.assertEqual(support_of(fresh_book(sheet_by(told)), spot(name)), spots(names))

    def test_places_without_an_entry(self):
        told = {"a1": 5, "b1": "x", "c1": "= a1"}
        for name in ["z99", "a2", "a1", "b1"]:
            self.assert_support(told, name, name)
        self.assertEqual(support_of({}, (3, 3)), [(3, 3)])

    def test_cells_that_read_nothing(self):
        told = {"a1": "= 5", "b1": "= lost", "c1": "= if(1, 2, a1)", "d1": "= find(z9, a1:b1)", "e1": "= lost + a1"}
        for name in ["a1", "b1", "c1", "e1"]:
            self.assert_support(told, name, name)
        self.assert_support(told, "d1", "d1 z9")

    def test_one_and_several(self):
        told = {"a1": 5, "b1": "= a1", "c1": "= z9", "d1": "= b1 + a2 + b1", "e1": "= d1 + c1"}
        self.assert_support(told, "b1", "a1 b1")
        self.assert_support(told, "c1", "c1 z9")
        self.assert_support(told, "d1", "a1 b1 d1 a2")
        self.assert_support(told, "e1", "a1 b1 c1 d1 e1 a2 z9")

    def test_only_what_was_read(self):
        told = {"a1": 1, "b1": 2, "c1": 3, "d1": "= if(a1, b1, c1)", "e1": "= else(b1, c1)", "f1": "= (a1 & \"x\") + c1 + d1"}
        self.assert_support(told, "d1", "a1 b1 d1")
        self.assert_support(told, "e1", "b1 e1")
        self.assert_support(told, "f1", "a1 c1 f1")

    def test_an_area_whole_and_in_part(self):
        told = {"a1": 1, "b1": 2, "a2": "= lost", "b2": 4, "a3": 9, "d1": "= sum(a1:b1)", "e1": "= sum(a1:b3)",
                "f1": "= find(1, a1:b3)", "g1": "= count(a8:b9)", "h1": "= d1 + e1"}
        self.assert_support(told, "d1", "a1 b1 d1")
        self.assert_support(told, "e1", "a1 b1 e1 a2")
        self.assert_support(told, "f1", "a1 b1 f1")
        self.assert_support(told, "g1", "g1 a8 b8 a9 b9")
        self.assert_support(told, "h1", "a1 b1 d1 e1 h1 a2")

    def test_rows_of_cells(self):
        for many in [1, 2, 20, 199, 200]:
            places, sheet = row_of(many, 1)
            book = fresh_book(sheet)
            for number in {0, many // 2, many - 1}:
                self.assertEqual(support_of(book, places[number]), places[number:])
            places, sheet = row_of(many, -1)
            book = fresh_book(sheet)
            self.assertEqual(support_of(book, places[-1]), places)

    def test_cells_that_wait(self):
        told = {"a1": "= b1", "b1": "= z9 + a1 + c1", "c1": "= 7", "d1": "= c1 + a1 + e1", "e1": 5, "f1": "= f1"}
        self.assert_support(told, "a1", "a1 b1 z9")
        self.assert_support(told, "b1", "a1 b1 z9")
        self.assert_support(told, "d1", "a1 b1 c1 d1 z9")
        self.assert_support(told, "f1", "f1")
        self.assert_support({"a1": "= sum(b1:b9)", "b2": "= a1", "b3": 4}, "a1", "a1 b1 b2")

    def test_sheets_by_chance(self):
        chance = random.Random(101)
        for _ in range(150):
            book = fresh_book(some_sheet(chance))
            kept = copy.deepcopy(book)
            for place in SPOTS + ((98, 25),):
                told = support_of(book, place)
                self.assertEqual(told, slow_support(book, place))
                self.assertEqual(support_of(book, place), told)
            self.assertEqual(book, kept)

    def test_the_list_is_the_askers_own(self):
        book = fresh_book(sheet_by({"a1": "= b1", "b1": "= c1"}))
        support_of(book, (0, 0)).clear()
        self.assertEqual(support_of(book, (0, 0)), spots("a1 b1 c1"))


class Agree(unittest.TestCase):
    def test_alike_everywhere(self):
        told = {"a1": 1, "b1": "x", "c1": "= a1"}
        self.assertIs(agree(sheet_by(told), sheet_by(told), ALL_PLACES), True)
        self.assertIs(agree({}, {}, ALL_PLACES), True)

    def test_alike_at_the_places_told_alone(self):
        one, other = sheet_by({"a1": 1, "b1": 2, "d1": 4}), sheet_by({"a1": 1, "b1": 3, "c1": 4})
        self.assertIs(agree(one, other, spots("a1 z9")), True)
        self.assertIs(agree(one, other, tuple(spots("a1 z9"))), True)
        for name in ["b1", "c1", "d1"]:
            self.assertIs(agree(one, other, spots("a1 z9") + [spot(name)]), False)
            self.assertIs(agree(one, other, [spot(name)] + spots("a1 z9")), False)

    def test_unlike_contents(self):
        contents = [0, 1, -1, "", "1", "0", "= 0", "= 1", "= a1", "= $a1", "= \"1\"", None]
        for one in contents:
            for other in contents:
                sheets = [sheet_by({"c3": told} if told is not None else {}) for told in (one, other)]
                self.assertIs(agree(sheets[0], sheets[1], [(2, 2)]), one == other, (one, other))

    def test_no_places(self):
        self.assertIs(agree(sheet_by({"a1": 1}), sheet_by({"a1": 2}), []), True)
        self.assertIs(agree({}, sheet_by({"a1": 2}), ()), True)

    def test_nothing_is_changed(self):
        one, other, places = sheet_by({"a1": 1}), sheet_by({"b1": 2}), spots("a1 b1 c1")
        agree(one, other, places)
        self.assertEqual((one, other, places), (sheet_by({"a1": 1}), sheet_by({"b1": 2}), spots("a1 b1 c1")))

    def test_the_same_entries_on_a_support(self):
        chance = random.Random(102)
        unlike = 0
        for _ in range(400):
            sheet = some_sheet(chance)
            book = fresh_book(sheet)
            if not book:
                continue
            support = support_of(book, chance.choice(sorted(book)))
            # Elsewhere, all that can be is otherwise.
            others = {place: some_content(chance) if chance.randrange(3) else None
                      for place in SPOTS + ((9, 9),) if place not in support}
            other = with_cells(sheet, others)
            self.assertIs(agree(sheet, other, support), True)
            book_there = fresh_book(other)
            for place in support:
                self.assertEqual(book_there.get(place), book.get(place))
            unlike += any(book_there.get(place) != book.get(place) for place in SPOTS)
        self.assertGreater(unlike, 200)

    def test_each_place_of_a_support_counts(self):
        # A place less in the support, and what is put there turns the entry.
        sheet = sheet_by({"a1": "= if(b1, c1, d1) + sum(e1:e3)", "b1": 1, "c1": "= f1"})
        book = fresh_book(sheet)
        self.assertEqual(support_of(book, (0, 0)), spots("a1 b1 c1 e1 f1 e2 e3"))
        for name in ["b1", "c1", "e1", "f1", "e2", "e3"]:
            other = with_cells(sheet, {spot(name): ("lost",)})
            self.assertIs(agree(sheet, other, support_of(book, (0, 0))), False)
            self.assertNotEqual(fresh_book(other)[(0, 0)], book[(0, 0)])


class Behind(unittest.TestCase):
    def assert_behind(self, told, name, names):
        self.assertEqual(behind(fresh_book(sheet_by(told)), spot(name)), spots(names))

    def test_places_that_nothing_reads(self):
        told = {"a1": 5, "b1": 6, "c1": "= b1"}
        self.assert_behind(told, "a1", "")
        self.assert_behind(told, "z99", "")
        self.assertEqual(behind({}, (0, 0)), [])

    def test_a_cell_is_behind_itself(self):
        told = {"a1": "= 5", "b1": "= c1", "d1": "= d1"}
        for name in ["a1", "b1", "d1"]:
            self.assert_behind(told, name, name)

    def test_over_several_cells(self):
        told = {"a1": 5, "d1": "= a1", "c1": "= d1", "b1": "= c1 + d1", "e1": "= if(1, 2, a1)", "f1": "= e1"}
        self.assert_behind(told, "a1", "b1 c1 d1")
        self.assert_behind(told, "d1", "b1 c1 d1")
        self.assert_behind(told, "c1", "b1 c1")
        self.assert_behind(told, "e1", "e1 f1")

    def test_a_blank_place_within_an_area(self):
        told = {"a1": 1, "a3": 3, "c1": "= sum(a1:a4)", "d1": "= c1", "e1": "= find(1, a1:b3)", "f1": "= find(3, a1:b3)"}
        self.assert_behind(told, "a2", "c1 d1 f1")
        self.assert_behind(told, "a4", "c1 d1")
        self.assert_behind(told, "b1", "e1")
        self.assert_behind(told, "b2", "")
        self.assert_behind(told, "a1", "c1 d1 e1 f1")
        self.assert_behind(told, "a5", "")

    def test_rows_of_cells(self):
        for many in [1, 2, 20, 199, 200]:
            places, sheet = row_of(many, 1)
            book = fresh_book(sheet)
            for number in {0, many // 2, many - 1}:
                self.assertEqual(behind(book, places[number]), places[:number + 1])
            # The last cell of a row that goes back reads nothing, and all the others lead to it.
            places, sheet = row_of(many, -1)
            self.assertEqual(behind(fresh_book(sheet), places[0]), places)

    def test_cells_that_wait(self):
        told = {"a1": "= b1", "b1": "= a1", "c1": "= d1 + b1 + e1", "f1": "= c1"}
        self.assert_behind(told, "a1", "a1 b1 c1 f1")
        self.assert_behind(told, "d1", "c1 f1")
        self.assert_behind(told, "e1", "")

    def test_sheets_by_chance(self):
        chance = random.Random(103)
        for _ in range(120):
            book = fresh_book(some_sheet(chance))
            kept = copy.deepcopy(book)
            for place in SPOTS + ((98, 25),):
                told = behind(book, place)
                self.assertEqual(told, slow_behind(book, place))
                self.assertEqual(behind(book, place), told)
            self.assertEqual(book, kept)

    def test_what_a_wave_touches(self):
        chance = random.Random(104)
        met = 0
        for _ in range(300):
            sheet = some_sheet(chance)
            book = fresh_book(sheet)
            changes = some_changes(chance, sheet)
            wave = wave_of(sheet, book, changes)[2]
            found = set(changes)
            for place in changes:
                found |= set(behind(book, place))
            for place, cause in wave:
                self.assertIn(place, found)
                met += cause[0] == "read"
        self.assertGreater(met, 200)

    def test_the_list_is_the_askers_own(self):
        book = fresh_book(made_sheet([((0, 0), at(0, 1)), ((0, 2), ("+", at(0, 0), num(1)))]))
        behind(book, (0, 1)).clear()
        self.assertEqual(behind(book, (0, 1)), spots("a1 c1"))


if __name__ == "__main__":
    unittest.main()
