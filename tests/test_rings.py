"""Promises 5.2 and 5.3: rings and the ways to them, what cells read, and their ranks."""

import copy
import random
import unittest

from helper import LOOSE, RefusalChecks, at, num, row_of, sheet_by, some_sheet, spot, spots
from onelook.fresh import fresh_book, waiting_in
from onelook.looks import places_read
from onelook.rings import ranks_by, rings_in, way_to_ring
from onelook.sheets import made_sheet


def ring_by(names):
    return tuple(spots(names))


class Rings(RefusalChecks, unittest.TestCase):
    def test_no_ring(self):
        for told in ({}, {"a1": 5}, {"a1": "= b1"}, {"a1": "= b1", "b1": "= if(1, 2, a1)"}):
            sheet = sheet_by(told)
            self.assertEqual(rings_in(fresh_book(sheet)), [])
            for place in list(sheet) + [(0, 0), (98, 25)]:
                self.refused("NotWaiting", way_to_ring, fresh_book(sheet), place)

    def test_one_ring(self):
        book = fresh_book(sheet_by({"b1": "= c1", "c1": "= a2", "a2": "= b1 + 1"}))
        self.assertEqual(rings_in(book), [ring_by("b1 c1 a2")])
        for name in ("b1", "c1", "a2"):
            self.assertEqual(way_to_ring(book, spot(name)), [spot(name)])

    def test_from_the_least_on_in_the_order_of_waiting(self):
        book = fresh_book(sheet_by({"a1": "= c1", "c1": "= b1", "b1": "= a1"}))
        self.assertEqual(rings_in(book), [ring_by("a1 c1 b1")])
        # By the row first, then by the column.
        book = fresh_book(sheet_by({"b2": "= z1", "z1": "= a3", "a3": "= b2"}))
        self.assertEqual(rings_in(book), [ring_by("z1 a3 b2")])

    def test_a_cell_that_waits_for_itself(self):
        for name in ("a1", "z99", "k40"):
            book = fresh_book({spot(name): at(*spot(name))})
            self.assertEqual(rings_in(book), [(spot(name),)])
            self.assertEqual(way_to_ring(book, spot(name)), [spot(name)])

    def test_several_rings(self):
        book = fresh_book(sheet_by({"c1": "= a2", "a2": "= c1", "b1": "= b1", "a1": "= z9", "z9": "= c3", "c3": "= a1",
                                    "d4": "= d4 + a1", "e5": "= 5"}))
        self.assertEqual(rings_in(book), [ring_by("a1 z9 c3"), ring_by("b1"), ring_by("c1 a2"), ring_by("d4")])

    def test_ways_from_afar(self):
        book = fresh_book(sheet_by({
            "a1": "= b1 + 1", "b1": "= c1", "c1": "= d1", "d1": "= e1", "e1": "= c1", "f1": "= sum(a2:a4)", "a3": "= f1",
            "g1": "= sum(f1:f3)", "h1": "= a1", "i1": "= b1 + h1", "j1": "= j1", "k1": "= j1"}))
        self.assertEqual(rings_in(book), [ring_by("c1 d1 e1"), ring_by("f1 a3"), ring_by("j1")])
        for way in ("a1 b1 c1", "b1 c1", "c1", "d1", "e1", "f1", "a3", "g1 f1", "h1 a1 b1 c1", "i1 b1 c1", "j1", "k1 j1"):
            self.assertEqual(way_to_ring(book, spots(way)[0]), spots(way))

    def test_200_cells(self):
        order = [(number // 20, number % 20) for number in range(200)]
        for start in (0, 1, 100, 199):
            # The last one waits for the one of this number: those ahead of it lead into the ring.
            sheet = made_sheet([(place, at(*(order + [order[start]])[number + 1])) for number, place in enumerate(order)])
            book = fresh_book(sheet)
            self.assertEqual(rings_in(book), [tuple(order[start:])])
            for number in (0, start // 2, start):
                self.assertEqual(way_to_ring(book, order[number]), order[number:start + 1])
            self.assertEqual(way_to_ring(book, order[199]), [order[199]])

    def test_not_waiting(self):
        sheet = sheet_by({"a1": "= a1", "b1": "= 5", "c1": 5, "d1": "x", "e1": "= f1", "g1": "= 1 / 0"})
        book = fresh_book(sheet)
        for name in ("b1", "c1", "d1", "e1", "f1", "g1", "z99"):
            self.refused("NotWaiting", way_to_ring, book, spot(name))
        for pair in ((99, 0), (0, 26), (-1, 0), (0, -1), (10 ** 59, 0), (0, -10 ** 59)):
            self.refused("NotWaiting", way_to_ring, book, pair)
        self.refused("NotWaiting", way_to_ring, {}, (0, 0))

    def test_by_chance(self):
        chance = random.Random(21)
        found = 0
        for _ in range(300):
            book = fresh_book(some_sheet(chance))
            before = copy.deepcopy(book)
            rings = rings_in(book)
            self.assertIs(type(rings), list)
            self.assertEqual(rings, sorted(rings))
            on_rings = [place for ring in rings for place in ring]
            self.assertEqual(len(on_rings), len(set(on_rings)))
            for ring in rings:
                self.assertIs(type(ring), tuple)
                self.assertEqual(ring[0], min(ring))
                self.assertEqual([book[place][1] for place in ring], list(ring[1:] + ring[:1]))
            for place in waiting_in(book):
                self.check_way(book, place, on_rings)
            self.assertEqual(book, before)
            found += len(rings)
        self.assertGreater(found, 100)

    def check_way(self, book, place, on_rings):
        way = way_to_ring(book, place)
        self.assertIs(type(way), list)
        self.assertEqual(way[0], place)
        self.assertEqual([book[cell][1] for cell in way[:-1]], way[1:])
        self.assertEqual([cell in on_rings for cell in way], [False] * (len(way) - 1) + [True])

    def test_told_lists_are_the_askers_own(self):
        book = fresh_book(sheet_by({"a1": "= b1", "b1": "= b1", "c1": "= c1"}))
        rings, way = rings_in(book), way_to_ring(book, spot("a1"))
        rings.append(5)
        rings[0] = None
        way.clear()
        self.assertEqual(rings_in(book), [ring_by("b1"), ring_by("c1")])
        self.assertEqual(way_to_ring(book, spot("a1")), spots("a1 b1"))


class Ranks(unittest.TestCase):
    def ranks(self, told):
        sheet = sheet_by(told)
        book = fresh_book(sheet)
        before = copy.deepcopy((sheet, book))
        ranks = ranks_by(sheet, book)
        self.assertEqual((sheet, book), before)
        return ranks

    def assert_ranks(self, told, ranks):
        self.assertEqual(self.ranks(told), {spot(name): rank for name, rank in ranks.items()})

    def test_none(self):
        self.assert_ranks({}, {})
        self.assert_ranks({"a1": 5, "b1": "x"}, {})

    def test_cells_that_read_nothing(self):
        self.assert_ranks({"a1": "= 5", "b1": "= lost", "c1": '= "a" & 5', "d1": "= if(0, a1, 2)"},
                          {"a1": 0, "b1": 0, "c1": 0, "d1": 0})

    def test_cells_that_read_no_formulas(self):
        self.assert_ranks({"a1": 5, "b1": "x", "c1": "= a1", "d1": "= sum(a1:b9)", "e1": "= z99", "f1": "= sum(k1:m98)"},
                          {"c1": 0, "d1": 0, "e1": 0, "f1": 0})

    def test_cells_that_read_one_another(self):
        self.assert_ranks({"a1": "= 1", "b1": "= a1", "c1": "= b1 + b1", "d1": "= c1 + 1"},
                          {"a1": 0, "b1": 1, "c1": 2, "d1": 3})

    def test_several_of_unlike_rank(self):
        told = {"a1": "= 1", "b1": "= a1", "c1": "= b1", "d1": "= a1 + c1", "e1": "= c1 + a1", "f1": "= sum(a1:e1)",
                "g1": "= else(b1, f1)", "h1": "= if(a1, a1, f1)", "i1": "= sum(a1:b1) + z9"}
        self.assert_ranks(told, {"a1": 0, "b1": 1, "c1": 2, "d1": 3, "e1": 3, "f1": 4, "g1": 2, "h1": 1, "i1": 2})

    def test_only_what_was_read(self):
        # Behind the first fault of an area, and behind a find, nothing counts.
        told = {"a1": "= 2", "a2": "= a1 / 0", "a3": "= a2", "b1": "= sum(a1:a3)", "b2": "= sum(a2:a3)",
                "c1": "= find(2, a1:b3)", "d1": "= else(sum(a1:a3), a3)"}
        self.assert_ranks(told, {"a1": 0, "a2": 1, "a3": 2, "b1": 2, "b2": 2, "c1": 3, "d1": 3})

    def test_waiting_ones_have_none(self):
        told = {"a1": "= b1", "b1": "= a1", "c1": "= a1 + d1", "d1": "= 1", "e1": "= if(d1, d1, a1)", "f1": "= else(e1, a1)"}
        self.assert_ranks(told, {"d1": 0, "e1": 1, "f1": 2})

    def test_rows_of_up_to_200_cells(self):
        for many in (1, 2, 50, 200):
            for step in (1, -1):
                order, sheet = row_of(many, step)
                ranks = ranks_by(sheet, fresh_book(sheet))
                self.assertEqual(ranks, {place: many - 1 - number if step == 1 else number
                                         for number, place in enumerate(order)})

    def test_rows_of_sums(self):
        cells = [((0, 0), num(1))] + [((row, 0), ("sum", (0, 0, row - 1, 0), LOOSE)) for row in range(1, 99)]
        sheet = made_sheet(cells)
        self.assertEqual(ranks_by(sheet, fresh_book(sheet)), {(row, 0): row for row in range(99)})

    def test_by_chance(self):
        chance = random.Random(22)
        greatest = 0
        for _ in range(200):
            sheet = some_sheet(chance)
            book = fresh_book(sheet)
            ranks = ranks_by(sheet, book)
            self.assertEqual(sorted(ranks), sorted(place for place in book if book[place][0] == "worth"))
            for place, rank in ranks.items():
                read = [ranks[other] for other in places_read(book[place][2]) if other in book]
                self.assertEqual(rank, 1 + max(read) if read else 0)
                greatest = max(greatest, rank)
        self.assertGreater(greatest, 3)

    def test_a_told_dict_is_the_askers_own(self):
        sheet = sheet_by({"a1": "= b1", "b1": "= 1"})
        book = fresh_book(sheet)
        ranks_by(sheet, book).clear()
        self.assertEqual(ranks_by(sheet, book), {(0, 0): 1, (0, 1): 0})


if __name__ == "__main__":
    unittest.main()
