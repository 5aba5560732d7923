"""Promises 4.2 and 4.3: the reckoning, books, and how places stand."""

import copy
import random
import unittest
from unittest import mock

from helper import LOOSE, at, num, row_of, some_sheet
from onelook.fresh import fresh_book, stands, waiting_in, worths_by
from onelook.looks import look_at, places_read
from onelook.sheets import formula_places, made_sheet

KIND, NOUGHT, NONE, LOST = [("fault", word) for word in ("kind", "nought", "none", "lost")]
WAITS = ("waits",)


def book_by_few_looks(sheet):
    """The book, and how many looks it took for each cell with a formula, rounded up."""
    with mock.patch("onelook.fresh.look_at", side_effect=look_at) as looked:
        book = fresh_book(sheet)
    return book, -(-looked.call_count // len(book))


def reckoned(sheet, chance):
    """The book by looks at cells that wait, in an order by chance, until none gives a worth."""
    worths = {place: content for place, content in sheet.items() if not isinstance(content, tuple)}
    waiting = [place for place in sheet if isinstance(sheet[place], tuple)]
    gone_on = True
    while gone_on:
        gone_on = False
        chance.shuffle(waiting)
        for place in list(waiting):
            told = look_at(sheet[place], worths, waiting)
            if told[0] == "worth":
                worths[place] = told[1]
                waiting.remove(place)
                gone_on = True
    return {place: look_at(sheet[place], worths, waiting) for place in sheet if isinstance(sheet[place], tuple)}


class Books(unittest.TestCase):
    def test_without_formulas(self):
        for sheet in ({}, {(0, 0): 1}, {(0, 0): 1, (5, 5): "a"}):
            self.assertEqual(fresh_book(sheet), {})
            self.assertEqual(worths_by(sheet, {}), sheet)
            self.assertEqual(waiting_in({}), [])

    def test_one_cell(self):
        sheet = {(0, 0): 4, (0, 1): ("+", at(0, 0), at(5, 5))}
        book = fresh_book(sheet)
        self.assertEqual(book, {(0, 1): ("worth", 4, (("at", (0, 0)), ("at", (5, 5))))})
        self.assertEqual(worths_by(sheet, book), {(0, 0): 4, (0, 1): 4})

    def test_cells_that_read_one_another(self):
        sheet = made_sheet([((0, 0), at(0, 1)), ((0, 1), ("*", at(0, 2), num(2))), ((0, 2), ("sum", (1, 0, 1, 2), LOOSE)),
                            ((1, 0), 3), ((1, 1), "x"), ((1, 2), ("else", ("/", num(1), num(0)), num(4)))])
        self.assertEqual(fresh_book(sheet), {
            (0, 0): ("worth", 14, (("at", (0, 1)),)), (0, 1): ("worth", 14, (("at", (0, 2)),)),
            (0, 2): ("worth", 7, (("part", (1, 0, 1, 2), (1, 2)),)), (1, 2): ("worth", 4, ()),
        })

    def test_faults_go_along(self):
        sheet = made_sheet([((0, 0), ("/", num(1), at(9, 9))), ((0, 1), ("+", at(0, 0), at(0, 1))), ((0, 2), ("lost",)),
                            ((0, 3), ("else", at(0, 1), ("least", (0, 2, 0, 2), LOOSE)))])
        book = fresh_book(sheet)
        self.assertEqual(worths_by(sheet, book), {(0, 0): NOUGHT, (0, 1): NOUGHT, (0, 2): LOST, (0, 3): LOST})
        # What is right of the fault was not read: so the cell that names itself has a worth.
        self.assertEqual(book[(0, 1)], ("worth", NOUGHT, (("at", (0, 0)),)))

    def test_a_blank_worth(self):
        sheet = {(0, 0): at(5, 5), (0, 1): ("&", at(0, 0), ("text", "x"))}
        book = fresh_book(sheet)
        self.assertEqual(worths_by(sheet, book), {(0, 0): None, (0, 1): "x"})
        self.assertIsNone(stands(sheet, book, (0, 0)))

    def test_rows_of_200_cells(self):
        for step in (1, -1):
            spots, sheet = row_of(200, step)
            book, looks = book_by_few_looks(sheet)
            self.assertLessEqual(looks, 2)
            for number, place in enumerate(spots):
                worth = 200 - number if step == 1 else number + 1
                self.assertEqual(book[place][:2], ("worth", worth))

    def test_rows_of_cells_that_sum_all_ahead_of_them(self):
        cells = [((0, 0), num(1))]
        for number in range(1, 99):
            cells.append(((number, 0), ("sum", (0, 0, number - 1, 0), LOOSE)))
        for number in range(99):
            below = ("sum", (number + 1, 1, 98, 1), LOOSE) if number < 98 else num(1)
            cells.append(((number, 1), below))
        sheet = made_sheet(cells)
        book, looks = book_by_few_looks(sheet)
        self.assertLessEqual(looks, 2)
        worths = worths_by(sheet, book)
        self.assertEqual(worths[(98, 0)], 2 ** 97)
        self.assertEqual(worths[(0, 1)], 2 ** 97)

    def test_great_sums_asked_for_in_any_order(self):
        chance = random.Random(8)
        spots = [(number // 20, number % 20) for number in range(200)]
        order = list(spots)
        chance.shuffle(order)
        formula_of = {place: ("+", at(*order[number + 1]), ("sum", (20, 0, 31, 24), LOOSE))
                      for number, place in enumerate(order[:-1])}
        formula_of[order[-1]] = num(7)
        sheet = made_sheet(list(formula_of.items()))
        book, looks = book_by_few_looks(sheet)
        self.assertLessEqual(looks, 2)
        self.assertEqual(set(worths_by(sheet, book).values()), {7})


class Rings(unittest.TestCase):
    def test_a_cell_that_reads_itself(self):
        sheet = {(0, 0): ("+", num(1), at(0, 0)), (0, 1): 5}
        book = fresh_book(sheet)
        self.assertEqual(book, {(0, 0): ("waits", (0, 0), (("at", (0, 0)),))})
        self.assertEqual(waiting_in(book), [(0, 0)])
        self.assertEqual(worths_by(sheet, book), {(0, 1): 5})
        self.assertEqual(stands(sheet, book, (0, 0)), WAITS)

    def test_a_ring_and_cells_that_lead_into_it(self):
        sheet = made_sheet([((0, 0), at(0, 1)), ((0, 1), at(0, 2)), ((0, 2), ("+", at(5, 5), at(0, 0))), ((5, 5), 2),
                            ((1, 0), ("sum", (5, 5, 5, 5), LOOSE)), ((1, 1), ("+", at(1, 0), at(0, 1))), ((2, 0), at(1, 1)),
                            ((2, 1), ("sum", (1, 0, 1, 1), LOOSE))])
        book = fresh_book(sheet)
        self.assertEqual(book, {
            (0, 0): ("waits", (0, 1), (("at", (0, 1)),)), (0, 1): ("waits", (0, 2), (("at", (0, 2)),)),
            (0, 2): ("waits", (0, 0), (("at", (5, 5)), ("at", (0, 0)))),
            (1, 0): ("worth", 2, (("part", (5, 5, 5, 5), (5, 5)),)),
            (1, 1): ("waits", (0, 1), (("at", (1, 0)), ("at", (0, 1)))), (2, 0): ("waits", (1, 1), (("at", (1, 1)),)),
            (2, 1): ("waits", (1, 1), (("part", (1, 0, 1, 1), (1, 1)),)),
        })
        self.assertEqual(waiting_in(book), [(0, 0), (0, 1), (0, 2), (1, 1), (2, 0), (2, 1)])
        self.assertEqual(list(book), sorted(book))

    def test_ifs_and_elses_that_do_not_read_a_ring(self):
        ring = [((0, 0), at(0, 1)), ((0, 1), at(0, 0))]
        sheet = made_sheet(ring + [((1, 0), ("if", num(0), at(0, 0), num(3))), ((1, 1), ("if", num(1), num(4), at(0, 1))),
                                   ((1, 2), ("else", num(5), at(0, 0))), ((1, 3), ("else", at(0, 0), num(6))),
                                   ((1, 4), ("if", at(1, 0), at(1, 1), at(1, 4))), ((1, 5), ("+", ("lost",), at(0, 0))),
                                   ((1, 6), ("find", num(3), (1, 0, 1, 1), LOOSE)), ((1, 7), ("if", num(1), at(0, 1), num(1)))])
        book = fresh_book(sheet)
        self.assertEqual(waiting_in(book), [(0, 0), (0, 1), (1, 3), (1, 7)])
        self.assertEqual(worths_by(sheet, book), {(1, 0): 3, (1, 1): 4, (1, 2): 5, (1, 4): 4, (1, 5): LOST, (1, 6): 4})
        self.assertEqual(book[(1, 3)], ("waits", (0, 0), (("at", (0, 0)),)))

    def test_a_ring_that_is_opened_by_a_worth(self):
        for asked, worth in ((0, 7), (1, WAITS)):
            sheet = made_sheet([((0, 0), ("if", at(5, 0), at(0, 1), num(7))), ((0, 1), at(0, 0)), ((5, 0), asked)])
            book = fresh_book(sheet)
            self.assertEqual([stands(sheet, book, place) for place in ((0, 0), (0, 1))], [worth, worth])

    def test_a_ring_of_200_cells(self):
        spots = [(number // 20, number % 20) for number in range(200)]
        sheet = made_sheet([(place, at(*spots[(number + 1) % 200])) for number, place in enumerate(spots)])
        book = fresh_book(sheet)
        self.assertEqual(waiting_in(book), spots)
        for number, place in enumerate(spots):
            self.assertEqual(book[place], ("waits", spots[(number + 1) % 200], (("at", spots[(number + 1) % 200]),)))

    def test_the_waiting_cells_are_told_ascending(self):
        book = {place: ("waits", place, (("at", place),)) for place in ((5, 5), (0, 7), (98, 0), (0, 0))}
        book[(3, 3)] = ("worth", 1, ())
        self.assertEqual(waiting_in(book), [(0, 0), (0, 7), (5, 5), (98, 0)])

    def test_several_rings(self):
        sheet = made_sheet([((0, 0), at(0, 0)), ((0, 1), at(0, 2)), ((0, 2), at(0, 1)), ((0, 3), ("+", at(0, 2), at(0, 0))),
                            ((0, 4), ("else", at(0, 5), at(0, 0))), ((0, 5), ("lost",))])
        book = fresh_book(sheet)
        self.assertEqual([book[place][:2] for place in formula_places(sheet)], [
            ("waits", (0, 0)), ("waits", (0, 2)), ("waits", (0, 1)), ("waits", (0, 2)), ("waits", (0, 0)), ("worth", LOST)])


class AnyOrder(unittest.TestCase):
    def test_looks_in_any_order_end_in_the_same_book(self):
        chance = random.Random(3)
        waited, worthy = 0, 0
        for _ in range(300):
            sheet = some_sheet(chance)
            book = fresh_book(sheet)
            for _ in range(3):
                self.assertEqual(reckoned(sheet, chance), book, sheet)
            waited += len(waiting_in(book))
            worthy += len(book) - len(waiting_in(book))
            self.check_book(sheet, book)
        self.assertGreater(waited, 300)
        self.assertGreater(worthy, 300)

    def check_book(self, sheet, book):
        self.assertEqual(list(book), formula_places(sheet))
        waiting = waiting_in(book)
        for place, entry in book.items():
            self.assertIs(type(entry[2]), tuple)
            self.assertEqual(len(entry[2]), len(set(entry[2])))
            if entry[0] == "waits":
                self.assertIn(entry[1], waiting)
                self.assertEqual(entry[2][-1][-1], entry[1])
            else:
                self.assertEqual(set(places_read(entry[2])) & set(waiting), set())

    def test_the_same_whatever_the_order_of_the_cells(self):
        chance = random.Random(4)
        for _ in range(100):
            sheet = some_sheet(chance)
            cells = list(sheet.items())
            chance.shuffle(cells)
            self.assertEqual(fresh_book(dict(cells)), fresh_book(sheet))


class Stands(unittest.TestCase):
    SHEET = {(0, 0): 3, (0, 1): "a", (0, 2): ("+", at(0, 0), num(1)), (0, 3): ("minus", at(0, 1)), (0, 4): at(0, 4), (0, 5): at(7, 7)}

    def test_each_way(self):
        book = fresh_book(self.SHEET)
        told = [stands(self.SHEET, book, (0, column)) for column in range(7)]
        self.assertEqual(told, [3, "a", 4, KIND, WAITS, None, None])
        self.assertIsNone(stands(self.SHEET, book, (98, 25)))
        self.assertEqual(worths_by(self.SHEET, book), {(0, 0): 3, (0, 1): "a", (0, 2): 4, (0, 3): KIND, (0, 5): None})

    def test_what_is_handed_in_stays_and_what_is_told_is_the_askers_own(self):
        sheet = dict(self.SHEET)
        book = fresh_book(sheet)
        before = copy.deepcopy((sheet, book))
        for told in (worths_by(sheet, book), waiting_in(book), fresh_book(sheet)):
            told.clear()
        stands(sheet, book, (0, 4))
        self.assertEqual((sheet, book), before)
        self.assertEqual(fresh_book(sheet), book)
        self.assertEqual(waiting_in(book), [(0, 4)])
        self.assertEqual(len(worths_by(sheet, book)), 5)

    def test_a_sheet_changed_later_leaves_the_book(self):
        sheet = dict(self.SHEET)
        book = fresh_book(sheet)
        before = copy.deepcopy(book)
        sheet.clear()
        self.assertEqual(book, before)


if __name__ == "__main__":
    unittest.main()
