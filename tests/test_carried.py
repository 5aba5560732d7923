"""Promises 8.1 to 8.3: books carried, plain shifts, sheets readied, and the wave of a shift."""

import copy
import random
import unittest
from unittest import mock

from helper import LOOSE, RefusalChecks, cells_by, num, row_of, sheet_by, some_sheet, spot
from onelook.carried import carried, is_plain, readied, shift_wave
from onelook.causes import right_wave
from onelook.errors import NoRoom
from onelook.fresh import fresh_book
from onelook.judge import right_book
from onelook.looks import look_at
from onelook.sheets import with_cells
from onelook.turned import shifted
from onelook.waves import wave_of

WAYS = ("rows in", "rows out", "columns in", "columns out")
KIND = ("fault", "kind")


def some_case(chance):
    """A sheet, its places scattered so that there are blank lines, and a shift near them."""
    top, left = chance.choice([0, 3, 90, 94]), chance.choice([0, 2, 20, 22])
    places = [(top + row, left + column) for row in range(5) for column in range(4)]
    sheet = some_sheet(chance, tuple(chance.sample(places, chance.randrange(3, 15))))
    way = chance.choice(WAYS)
    first, lines = (top, 99) if way.startswith("rows") else (left, 26)
    line = min(first + chance.randrange(6), lines - 1)
    many = chance.choice([1, 1, 2, 3])
    return sheet, (way, line, many if way.endswith("in") else min(many, lines - line))


class Carried(unittest.TestCase):
    def assert_carried(self, entry, shift, due):
        here, there = (0, 0), (0, 0)
        book = {here: entry}
        told = carried(book, shift)
        self.assertEqual(told, {there: due})
        self.assertEqual(book, {here: entry})
        told.clear()
        self.assertEqual(carried(book, shift), {there: due})
        self.assertIs(type(due[2]), tuple)

    def test_nothing(self):
        for way in WAYS:
            self.assertEqual(carried({}, (way, 0, 1)), {})

    def test_entries_at_their_new_places(self):
        book = {(0, 0): ("worth", 1, ()), (4, 4): ("worth", "x", ()), (9, 9): ("worth", None, ()), (6, 6): ("worth", KIND, ())}
        for shift, moved in (
            (("rows in", 4, 2), [(0, 0), (6, 4), (11, 9), (8, 6)]), (("rows out", 1, 3), [(0, 0), (1, 4), (6, 9), (3, 6)]),
            (("columns in", 5, 1), [(0, 0), (4, 4), (9, 10), (6, 7)]), (("columns out", 7, 1), [(0, 0), (4, 4), (9, 8), (6, 6)]),
        ):
            self.assertEqual(carried(book, shift), dict(zip(moved, book.values())))

    def test_at_items(self):
        reads = (("at", (2, 1)), ("at", (5, 1)), ("at", (1, 1)))
        self.assert_carried(("worth", 7, reads), ("rows in", 2, 1), ("worth", 7, (("at", (3, 1)), ("at", (6, 1)), ("at", (1, 1)))))
        self.assert_carried(("worth", 7, reads), ("rows out", 3, 2), ("worth", 7, (("at", (2, 1)), ("at", (3, 1)), ("at", (1, 1)))))
        self.assert_carried(("worth", 7, reads), ("columns in", 1, 3), ("worth", 7, (("at", (2, 4)), ("at", (5, 4)), ("at", (1, 4)))))

    def test_parts_read_to_the_last_place(self):
        reads = (("part", (2, 1, 5, 3), (5, 3)),)
        for shift, area in (
            (("rows in", 3, 2), (2, 1, 7, 3)), (("rows in", 2, 2), (4, 1, 7, 3)), (("rows in", 6, 2), (2, 1, 5, 3)),
            (("columns in", 2, 1), (2, 1, 5, 4)), (("rows out", 5, 1), (2, 1, 4, 3)), (("rows out", 4, 9), (2, 1, 3, 3)),
            (("rows out", 3, 1), (2, 1, 4, 3)), (("columns out", 3, 1), (2, 1, 5, 2)), (("rows out", 1, 2), (1, 1, 3, 3)),
            (("columns out", 2, 2), (2, 1, 5, 1)),
        ):
            self.assert_carried(("worth", 7, reads), shift, ("worth", 7, (("part", area, area[2:]),)))

    def test_parts_that_end_ahead_of_it(self):
        reads = (("part", (2, 1, 5, 3), (4, 2)),)
        for shift, area, place in (
            (("rows in", 3, 2), (2, 1, 7, 3), (6, 2)), (("rows in", 5, 2), (2, 1, 7, 3), (4, 2)), (("rows in", 2, 2), (4, 1, 7, 3), (6, 2)),
            (("columns in", 2, 1), (2, 1, 5, 4), (4, 3)), (("columns in", 3, 1), (2, 1, 5, 4), (4, 2)), (("rows out", 5, 1), (2, 1, 4, 3), (4, 2)),
            (("rows out", 3, 1), (2, 1, 4, 3), (3, 2)), (("columns out", 3, 1), (2, 1, 5, 2), (4, 2)), (("columns out", 1, 1), (2, 1, 5, 2), (4, 1)),
        ):
            self.assert_carried(("worth", KIND, reads), shift, ("worth", KIND, (("part", area, place),)))

    def test_items_that_come_to_be_alike(self):
        one, other, third = ("part", (2, 1, 5, 1), (5, 1)), ("part", (2, 1, 4, 1), (4, 1)), ("part", (2, 1, 3, 1), (3, 1))
        more = ("at", (2, 1))
        self.assert_carried(("worth", 7, (one, more, other, third)), ("rows out", 5, 1), ("worth", 7, (other, more, third)))
        self.assert_carried(("worth", 7, (one, more, other, third)), ("rows out", 4, 2), ("worth", 7, (third, more)))
        self.assert_carried(("worth", 7, (third, more, other, one)), ("rows out", 5, 1), ("worth", 7, (third, more, other)))

    def test_cells_that_wait(self):
        reads = (("at", (1, 1)), ("part", (2, 1, 5, 1), (4, 1)))
        self.assert_carried(("waits", (4, 1), reads), ("rows in", 3, 1), ("waits", (5, 1), (("at", (1, 1)), ("part", (2, 1, 6, 1), (5, 1)))))
        self.assert_carried(("waits", (4, 1), reads), ("rows out", 3, 1), ("waits", (3, 1), (("at", (1, 1)), ("part", (2, 1, 4, 1), (3, 1)))))
        book = fresh_book(sheet_by({"b2": "= c3", "c3": "= sum(a1:b2)", "d4": "= sum(b2:c2)"}))
        self.assertEqual(carried(book, ("columns in", 1, 1)), fresh_book(sheet_by({"c2": "= d3", "d3": "= sum(a1:c2)", "e4": "= sum(c2:d2)"})))


class Plain(unittest.TestCase):
    def assert_plain(self, told, shift, plain):
        sheet = sheet_by(told)
        before = copy.deepcopy(sheet)
        self.assertIs(is_plain(sheet, shift), plain, (told, shift))
        self.assertEqual(sheet, before)
        if plain:
            book = fresh_book(sheet)
            kept = copy.deepcopy(book)
            now = shifted(sheet, shift)
            self.assertEqual(carried(book, shift), fresh_book(now))
            self.assertIs(right_book(now, carried(book, shift)), True)
            self.assertEqual(book, kept)

    def test_in_with_and_without_room(self):
        told = {"a1": 5, "b2": "= sum(a1:a4)", "c3": "= b2 + c3", "d4": "= else(find(5, a1:b9), 0)"}
        for way in ("rows in", "columns in"):
            for line in range(6):
                for many in (1, 3):
                    self.assert_plain(told, (way, line, many), True)
            self.assert_plain(told, (way, 1, 10 ** 59), False)
        self.assert_plain({}, ("rows in", 0, 10 ** 59), True)
        self.assert_plain({"a99": 1}, ("rows in", 98, 1), False)
        self.assert_plain({"a98": 1}, ("rows in", 98, 5), True)
        self.assert_plain({"a1": "= a99"}, ("rows in", 50, 1), False)
        self.assert_plain({"a1": "= sum(b1:b99)"}, ("rows in", 50, 1), False)
        self.assert_plain({"a1": "= sum(b2:z12)"}, ("rows in", 5, 1), True)
        self.assert_plain({"a1": "= sum(b2:z13)"}, ("rows in", 5, 1), False)

    def test_out_that_takes_a_filled_cell(self):
        for content in (5, "x", "", "= 1", "= z9"):
            self.assert_plain({"b2": content}, ("rows out", 1, 1), False)
            self.assert_plain({"b2": content}, ("columns out", 0, 2), False)
            self.assert_plain({"b2": content}, ("rows out", 0, 1), True)
            self.assert_plain({"b2": content}, ("columns out", 2, 5), True)

    def test_out_that_takes_what_a_formula_names(self):
        for text in ("= b5", "= if(1, 2, b5)", "= sum(b5:c5)", "= sum(b5:b5)", "= 1 + find(1, b5:c5)", "= find(b5, c1:d2)", "= -b5"):
            self.assert_plain({"a1": text}, ("rows out", 4, 1), False)
            self.assert_plain({"a1": text}, ("rows out", 3, 3), False)
            self.assert_plain({"a1": text}, ("rows out", 5, 1), True)
            self.assert_plain({"a9": text}, ("columns out", 4, 1), True)
        # Not gone through by the look, but named.
        self.assert_plain({"a1": "= else(1, d1)"}, ("columns out", 3, 1), False)

    def test_out_that_takes_an_end_column_of_a_find(self):
        for line, plain in ((1, False), (2, True), (3, False), (4, True)):
            self.assert_plain({"a1": "= find(1, b5:d9)"}, ("columns out", line, 1), plain)
            self.assert_plain({"a1": "= sum(b5:d9)"}, ("columns out", line, 1), True)

    def test_out_that_only_shortens_an_area(self):
        told = {"a1": "= sum(b2:b9)", "b3": 4, "b5": "= 1 / 0", "c1": "= count(a2:b4) + b3", "a12": '= find(4, b2:c9) & "x"'}
        for line, many in ((1, 1), (3, 1), (5, 1), (8, 1), (6, 3), (5, 6)):
            self.assert_plain(told, ("rows out", line, many), True)
        self.assert_plain(told, ("rows out", 1, 2), False)
        self.assert_plain(told, ("rows out", 4, 1), False)

    def test_out_that_touches_nothing(self):
        self.assert_plain({}, ("rows out", 0, 99), True)
        self.assert_plain({"a1": 1, "b1": "= a1"}, ("rows out", 1, 98), True)
        self.assert_plain({"a1": 1, "b1": "= a1"}, ("columns out", 2, 24), True)

    def test_items_that_come_to_be_alike(self):
        self.assert_plain({"a1": "= sum(b2:b9) + sum(b2:b8) + count(b2:b9)", "b3": 4}, ("rows out", 8, 1), True)
        self.assert_plain({"a1": "= else(sum(b2:b9), sum(b2:b8))", "b3": "= lost"}, ("rows out", 7, 2), True)

    def test_by_chance(self):
        chance = random.Random(61)
        found = {}
        for _ in range(1200):
            sheet, shift = some_case(chance)
            plain = is_plain(sheet, shift)
            found[(shift[0], plain)] = found.get((shift[0], plain), 0) + 1
            if plain:
                self.assertEqual(carried(fresh_book(sheet), shift), fresh_book(shifted(sheet, shift)), (sheet, shift))
        self.assertEqual(len(found), 8)
        self.assertGreater(min(found.values()), 20)


class Readied(unittest.TestCase):
    def assert_readied(self, told, shift, changes):
        sheet = sheet_by(told)
        before = copy.deepcopy(sheet)
        due = cells_by(changes)
        readied(sheet, shift).clear()
        self.assertEqual(readied(sheet, shift), due)
        self.assertEqual(sheet, before)
        ready = with_cells(sheet, due)
        self.assertIs(is_plain(ready, shift), True)
        self.assertEqual(shifted(ready, shift), shifted(sheet, shift))

    def test_in(self):
        told = {"a1": 5, "b2": "= a1 + b3", "c3": "= sum(a1:b4)"}
        for way in ("rows in", "columns in"):
            for line in range(5):
                self.assert_readied(told, (way, line, 2), {})
        # Without room there are no changes either.
        self.assertEqual(readied(sheet_by({"a99": 1, "b1": "= a99"}), ("rows in", 0, 1)), {})

    def test_cells_cleared(self):
        told = {"a1": 5, "a2": "x", "b2": "= a1", "c3": "= a1", "a9": ""}
        self.assert_readied(told, ("rows out", 1, 1), {"a2": None, "b2": None})
        self.assert_readied(told, ("rows out", 1, 2), {"a2": None, "b2": None, "c3": None})
        self.assert_readied(told, ("columns out", 3, 2), {})
        self.assert_readied(told, ("rows out", 0, 99), {"a1": None, "a2": None, "b2": None, "c3": None, "a9": None})
        self.assert_readied({}, ("rows out", 0, 99), {})

    def test_formulas_that_lose_something(self):
        told = {"a1": "= b5 + c6 + sum(b5:c6) + sum(b5:c5)", "a2": "= sum(b4:c6)", "a3": "= if(b5, c4, $b$5)",
                "a4": "= find(b5, b4:c6)", "a7": "= 1 + find(b5, b5:c5)", "b5": "= b5"}
        self.assert_readied(told, ("rows out", 4, 1), {
            "a1": "= lost + c6 + sum(b5:c6) + lost", "a3": "= if(lost, c4, lost)", "a4": "= find(lost, b4:c6)",
            "a7": "= 1 + lost", "b5": None})
        self.assert_readied(told, ("columns out", 1, 1), {
            "a1": "= lost + c6 + sum(b5:c6) + sum(b5:c5)", "a3": "= if(lost, c4, lost)", "a4": "= lost", "a7": "= 1 + lost",
            "b5": None})
        self.assert_readied(told, ("rows out", 5, 1), {"a1": "= b5 + lost + sum(b5:c6) + sum(b5:c5)"})
        self.assert_readied({"a1": "= lost + lost", "b1": "= lost"}, ("rows out", 4, 1), {})

    def test_a_cleared_cells_own_formula_is_not_turned(self):
        self.assert_readied({"a1": "= a2", "a2": "= a2 + a1"}, ("rows out", 1, 1), {"a1": "= lost", "a2": None})

    def test_by_chance(self):
        chance = random.Random(62)
        some = 0
        for _ in range(400):
            sheet, shift = some_case(chance)
            changes = readied(sheet, shift)
            for place, content in changes.items():
                self.assertIn(place, sheet)
                self.assertNotEqual(sheet[place], content)
            if shift[0].endswith("out"):
                self.assertIs(is_plain(sheet, shift), not changes)
                ready = with_cells(sheet, changes)
                self.assertIs(is_plain(ready, shift), True)
                self.assertEqual(shifted(ready, shift), shifted(sheet, shift))
                some += len(changes)
            else:
                self.assertEqual(changes, {})
        self.assertGreater(some, 200)


class ShiftWaves(RefusalChecks, unittest.TestCase):
    def check(self, sheet, shift):
        book = fresh_book(sheet)
        handed = (sheet, book, shift)
        before = copy.deepcopy(handed)
        told = shift_wave(*handed)
        self.assertEqual(handed, before)
        self.assertIs(type(told), tuple)
        now, book_now, wave = told
        self.assertEqual(now, shifted(sheet, shift))
        self.assertEqual(book_now, fresh_book(now))
        changes = readied(sheet, shift)
        ready = wave_of(sheet, book, changes)
        self.assertEqual(wave, ready[2])
        self.assertIs(right_wave(sheet, book, changes, ready[1], wave), True)
        if not changes:
            self.assertEqual(wave, [])
        kept = copy.deepcopy(told)
        for thing in told:
            thing.clear()
        self.assertEqual(shift_wave(*handed), kept)
        return kept[2]

    def assert_wave(self, told, shift, wave):
        due = [(spot(name), ("own",) if cause == "own" else ("read", spot(cause))) for name, cause in wave]
        self.assertEqual(self.check(sheet_by(told), shift), due)

    def test_plain_ones(self):
        told = {"a1": 5, "b2": "= a1 + b9", "c3": "= sum(a1:b4)", "d4": "= d4", "e5": "= find(5, a1:b4)"}
        for shift in (("rows in", 0, 1), ("rows in", 2, 3), ("columns in", 1, 1), ("rows out", 5, 2), ("rows out", 9, 90), ("columns out", 6, 3)):
            self.assert_wave(told, shift, [])
        self.assert_wave({}, ("rows out", 0, 99), [])
        self.assert_wave({}, ("rows in", 0, 10 ** 59), [])

    def test_what_the_changes_touch(self):
        told = {"a1": 5, "b2": "= a1 + 1", "c3": "= b2 * 2", "d4": "= sum(a1:a2) + 7", "e5": "= 3", "f6": "= if(e5, 1, a1)"}
        self.assert_wave(told, ("rows out", 0, 1), [("b2", "own"), ("d4", "a1"), ("c3", "b2"), ("f6", "own")])
        self.assert_wave(told, ("rows out", 1, 1), [("c3", "own")])
        self.assert_wave(told, ("columns out", 4, 2), [])
        self.assert_wave(told, ("columns out", 4, 1), [("f6", "own")])

    def test_rings(self):
        told = {"a1": "= b2", "b2": "= a1", "c3": "= a1"}
        self.assert_wave(told, ("rows out", 1, 1), [("a1", "own"), ("c3", "a1")])
        self.assert_wave(told, ("columns out", 0, 1), [("b2", "own"), ("c3", "own")])
        self.assert_wave(told, ("columns in", 1, 4), [])
        self.assert_wave(told, ("rows out", 2, 1), [])

    def test_rows_of_200_cells(self):
        for step in (1, -1):
            spots, sheet = row_of(200, step)
            self.assertEqual(self.check(sheet, ("rows in", 3, 5)), [])
            # The one row that reads a taken cell is touched by its own formula; all that read on from there follow.
            wave = self.check(sheet, ("rows out", 4, 1))
            self.assertEqual(wave[0], ((3, 19) if step == 1 else (5, 0), ("own",)))
            self.assertEqual(len(wave), 80 if step == 1 else 100)

    def test_nothing_is_looked_at_in_a_plain_one(self):
        sheet = sheet_by({"a1": 5, "b2": "= a1 + b9", "c3": "= sum(a1:b4)", "d4": "= d4"})
        for shift, looks in ((("rows in", 1, 1), 0), (("rows out", 4, 2), 0), (("columns out", 0, 1), 2)):
            with mock.patch("onelook.waves.look_at", side_effect=look_at) as looked:
                shift_wave(sheet, fresh_book(sheet), shift)
            self.assertEqual(looked.call_count > 0, looks > 0)

    def test_no_room(self):
        for told, shift in (({"a99": 1}, ("rows in", 0, 1)), ({"a1": "= z9"}, ("columns in", 3, 1)), ({"a1": "= sum(b1:z12)"}, ("rows in", 4, 1)),
                            ({"z1": "= 1"}, ("columns in", 25, 1)), ({"a1": 1}, ("rows in", 0, 10 ** 59))):
            sheet = sheet_by(told)
            book = fresh_book(sheet)
            before = copy.deepcopy((sheet, book))
            self.refused("NoRoom", shift_wave, sheet, book, shift)
            self.assertEqual((sheet, book), before)

    def test_somewhat_more_cells_than_a_sheet_has(self):
        # No point refuses such a sheet here.
        sheet = {(row, column): num(row) for row in range(1, 21) for column in range(11)}
        sheet[(0, 0)] = ("sum", (1, 0, 20, 10), LOOSE)
        for shift in (("rows in", 3, 1), ("rows out", 40, 1), ("rows out", 20, 1)):
            now, book_now, wave = shift_wave(sheet, fresh_book(sheet), shift)
            self.assertEqual((now, book_now), (shifted(sheet, shift), fresh_book(now)))

    def test_by_chance(self):
        chance = random.Random(63)
        waves, refused = 0, 0
        for _ in range(500):
            sheet, shift = some_case(chance)
            try:
                shifted(sheet, shift)
            except NoRoom:
                self.refused("NoRoom", shift_wave, sheet, fresh_book(sheet), shift)
                refused += 1
            else:
                waves += len(self.check(sheet, shift))
        self.assertGreater(waves, 200)
        self.assertGreater(refused, 10)

    def test_one_behind_another(self):
        chance = random.Random(64)
        for _ in range(30):
            sheet = some_sheet(chance)
            book = fresh_book(sheet)
            for _ in range(6):
                way = chance.choice(WAYS)
                sheet, book, wave = shift_wave(sheet, book, (way, chance.randrange(6), 1))
                self.assertEqual(book, fresh_book(sheet))


if __name__ == "__main__":
    unittest.main()
