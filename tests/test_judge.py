"""Promise 5.1: when a book is right for a sheet, and cells that read one another round."""

import copy
import random
import unittest

from helper import LOOSE, at, num, row_of, sheet_by, some_sheet, spot
from onelook.fresh import fresh_book
from onelook.judge import right_book, round_read
from onelook.looks import look_at
from onelook.sheets import formula_places, made_sheet

KIND, NONE, LOST = [("fault", word) for word in ("kind", "none", "lost")]
A1, B1, C1, D1 = [(0, column) for column in range(4)]

# Things that a row of reads may hold though they are no items.
NO_ITEMS = [
    (), ("at",), ("part",), ("at", (99, 0)), ("at", (0, 26)), ("at", (-1, 0)), ("at", (0, -1)), ("at", (0,)),
    ("at", (0, 0, 0)), ("at", (0, 0), (0, 0)), ("at", 0), ("at", "a1"), ("at", ()), ("at", ("a", 1)), ("at", ((0, 0),)),
    ("part", (0, 0, 0, 3)), ("part", (0, 0, 0, 3), (0, 4)), ("part", (0, 0, 0, 3), (1, 0)),
    ("part", (0, 0, 3, 3), (4, 0)), ("part", (1, 0, 3, 3), (0, 0)), ("part", (0, 1, 3, 3), (1, 0)),
    ("part", (0, 0, 3, 1), (3, 2)), ("part", (0, 3, 0, 0), (0, 0)), ("part", (3, 0, 0, 3), (0, 3)),
    ("part", (0, 0, 42, 6), (42, 6)), ("part", (0, 0, 98, 25), (98, 25)), ("part", (-1, 0, 3, 3), (3, 3)),
    ("part", (0, 0, 99, 0), (98, 0)), ("part", (0, 0, 0, 26), (0, 25)), ("part", (0, 0), (0, 0)),
    ("part", (0, 0, 0, 3), 3), ("part", (0, 0, 0, 3), "d1"), ("part", (0, 0, 0, 3), (0,)), ("part", (0, 0, 0, "d"), (0, 3)),
    ("part", (0, 0, 0, 3), (0, 3), (0, 3)), ("part", "a1:d1", (0, 3)), ("part", (0, 0, 0, 3), ()), ("part", (), (0, 0)),
    ("near", (0, 0)), ("near", (0, 0, 0, 3), (0, 3)), ("", (0, 0)), (0, (0, 0)), (("at",), (0, 0)), 7, "at", "",
]
NO_WORTHS = [(), ("waits",), ("waits", (0, 0)), ("waits", (0, 1)), ("fault",), (1, 2), ("kind",), ((), ()), ("fault", "odd")]


def with_entry(book, place, entry):
    other = dict(book)
    other[place] = entry
    return other


def without(book, place):
    other = dict(book)
    del other[place]
    return other


def other_reads(reads):
    """Rows of reads that are unlike by one thing."""
    more = [("at", (0, 0)), ("at", (50, 20)), ("part", (0, 0, 0, 0), (0, 0)), ("part", (0, 0, 3, 3), (3, 3))]
    rows = [reads[:number] + reads[number + 1:] for number in range(len(reads))]
    for number in range(len(reads) + 1):
        rows += [reads[:number] + (item,) + reads[number:] for item in more + NO_ITEMS[:3]]
    for number in range(len(reads) - 1):
        rows.append(reads[:number] + (reads[number + 1], reads[number]) + reads[number + 2:])
    for number, item in enumerate(reads):
        if item[0] == "at":
            others = [("at", (97, 25)), ("part", item[1] + item[1], item[1])]
        else:
            area = item[1]
            others = [("part", area, (row, column)) for row in range(area[0] - 1, area[2] + 2)
                      for column in range(area[1] - 1, area[3] + 2)]
            others += [("part", (area[0], area[1], area[2], area[3] + 1), item[2]), ("at", item[2])]
        rows += [reads[:number] + (other,) + reads[number + 1:] for other in others]
    return [row for row in rows if row != reads]


def other_entries(entry, places):
    """Entries that are unlike by one thing."""
    entries = [(entry[0], entry[1], reads) for reads in other_reads(entry[2])]
    worths = [0, 1, -1, None, "", "a", KIND, LOST, 10 ** 60] + NO_WORTHS
    if entry[0] == "worth":
        entries += [("worth", worth, entry[2]) for worth in worths if worth != entry[1]]
        entries += [("waits", place, entry[2]) for place in places + [(99, 0), (-1, -1)]]
        entries += [("waits", item[-1], entry[2][:number + 1]) for number, item in enumerate(entry[2])]
    else:
        entries += [("worth", worth, reads) for worth in worths for reads in (entry[2], entry[2][:-1])]
        entries += [("waits", place, entry[2]) for place in places + [(99, 0), (5, 20)] if place != entry[1]]
    return entries


def slow_round(sheet, book):
    """The least cell that comes back to itself, asked for each cell by itself."""
    def told(place):
        return isinstance(sheet.get(place), tuple) and book.get(place, ("none",))[0] == "worth"

    def reads(place):
        found = []
        for item in book[place][2]:
            top, left, bottom, right = item[1] + item[1] if item[0] == "at" else item[1]
            found += [(row, column) for row in range(top, bottom + 1) for column in range(left, right + 1)
                      if (row, column) <= item[-1] and told((row, column))]
        return found

    for start in sorted(filter(told, book)):
        seen, ahead = set(), [start]
        while ahead:
            for place in reads(ahead.pop()):
                if place == start:
                    return start
                if place not in seen:
                    seen.add(place)
                    ahead.append(place)
    return None


class RightBooks(unittest.TestCase):
    def test_without_formulas(self):
        for sheet in ({}, {A1: 5}, {A1: "a", (98, 25): 0}):
            self.assertIs(right_book(sheet, {}), True)
            self.assertIs(right_book(sheet, {A1: ("worth", 5, ())}), False)
            self.assertIs(right_book(sheet, {(98, 25): ("waits", (98, 25), ())}), False)
            self.assertIsNone(round_read(sheet, {}))

    def test_of_the_reckoning(self):
        chance = random.Random(11)
        for _ in range(200):
            sheet = some_sheet(chance)
            book = fresh_book(sheet)
            before = copy.deepcopy((sheet, book))
            self.assertIs(right_book(sheet, book), True)
            self.assertIsNone(round_read(sheet, book))
            self.assertEqual((sheet, book), before)

    def test_in_whatever_order_the_entries_come(self):
        chance = random.Random(12)
        for _ in range(30):
            sheet = some_sheet(chance)
            entries = list(fresh_book(sheet).items())
            chance.shuffle(entries)
            self.assertIs(right_book(sheet, dict(entries)), True)

    def test_rows_of_200_cells(self):
        for step in (1, -1):
            spots, sheet = row_of(200, step)
            book = fresh_book(sheet)
            self.assertIs(right_book(sheet, book), True)
            place = spots[100]
            self.assertIs(right_book(sheet, with_entry(book, place, ("worth", 1, book[place][2]))), False)

    def test_of_another_sheet(self):
        book = fresh_book({A1: at(0, 1), B1: 5})
        self.assertIs(right_book({A1: at(0, 1), B1: 5, C1: 6}, book), True)
        for other in ({A1: at(0, 1), B1: 6}, {A1: at(0, 1)}, {A1: at(0, 2), B1: 5}, {A1: 5, B1: 5}, {B1: 5},
                      {A1: at(0, 1), B1: at(0, 2), C1: 5}, {A1: at(0, 1), B1: 5, C1: num(1)}):
            self.assertIs(right_book(other, book), False)


class OneThingOtherwise(unittest.TestCase):
    SHEETS = [
        sheet_by({"a1": 3, "b1": "= a1 + c1", "c1": "= sum(a2:b4)", "a3": 5, "b3": "x", "d1": "= else(e1, b1)",
                  "e1": "= 1 / 0"}),
        sheet_by({"a1": "= b1", "b1": "= c1 + 1", "c1": "= d1 + a1", "d1": 4, "a2": "= sum(c1:d3)", "b2": "= a2 + d2",
                  "d2": "= d1 * 2", "c3": "= c3"}),
        sheet_by({"a1": "k", "a2": 2, "a3": "m", "c1": 7, "c2": 8, "c3": 9, "d1": '= find("m", a1:c3)',
                  "d2": "= find(2, a1:c3) + d1", "d3": "= find(5, a1:b3)", "d4": "= count(c1:d3)", "e1": "= z99"}),
    ]

    def assert_wrong(self, sheet, book):
        before = copy.deepcopy((sheet, book))
        self.assertIs(right_book(sheet, book), False, book)
        self.assertEqual((sheet, book), before)

    def sheets(self):
        chance = random.Random(13)
        return self.SHEETS + [some_sheet(chance) for _ in range(12)]

    def test_an_entry_left_out(self):
        for sheet in self.sheets():
            book = fresh_book(sheet)
            for place in book:
                self.assert_wrong(sheet, without(book, place))

    def test_an_entry_for_a_place_without_a_formula(self):
        for sheet in self.sheets():
            book = fresh_book(sheet)
            for place in ((98, 25), (50, 3), (99, 0), (0, 26), (-1, 0), (0, -1), (10 ** 59, 10 ** 59)):
                for entry in (("worth", None, ()), ("worth", 0, ()), ("waits", place, (("at", place),))):
                    self.assert_wrong(sheet, with_entry(book, place, entry))
            for place in sheet:
                if place not in book:
                    self.assert_wrong(sheet, with_entry(book, place, ("worth", sheet[place], ())))

    def test_an_entry_unlike_by_one_thing(self):
        for sheet in self.sheets():
            book = fresh_book(sheet)
            for place, entry in book.items():
                for other in other_entries(entry, list(book)):
                    self.assert_wrong(sheet, with_entry(book, place, other))

    def test_an_item_that_is_none(self):
        sheet = self.SHEETS[0]
        book = fresh_book(sheet)
        for item in NO_ITEMS:
            for place, entry in book.items():
                self.assert_wrong(sheet, with_entry(book, place, entry[:2] + (entry[2] + (item,),)))
                self.assert_wrong(sheet, with_entry(book, place, entry[:2] + ((item,) + entry[2],)))

    def test_worths_that_are_none(self):
        # A cell that reads another one meets what is told of it.
        sheet = {A1: at(0, 1), B1: ("lost",), C1: ("sum", (0, 1, 0, 1), LOOSE)}
        for worth in NO_WORTHS:
            for told in (worth, LOST):
                self.assert_wrong(sheet, {A1: ("worth", told, (("at", B1),)), B1: ("worth", worth, ()),
                                          C1: ("worth", told, (("part", (0, 1, 0, 1), B1),))})

    def test_two_entries_exchanged(self):
        for sheet in self.sheets():
            book = fresh_book(sheet)
            for one in book:
                for other in book:
                    if book[one] != book[other]:
                        self.assert_wrong(sheet, with_entry(with_entry(book, one, book[other]), other, book[one]))

    def test_worths_that_hang_together_but_for_one(self):
        sheet = sheet_by({"a1": "= 1 + 1", "b1": "= a1 * 2", "c1": "= b1 + a1"})
        book = {A1: ("worth", 3, ()), B1: ("worth", 6, (("at", A1),)), C1: ("worth", 9, (("at", B1), ("at", A1)))}
        self.assert_wrong(sheet, book)
        self.assertIsNone(round_read(sheet, book))

    def test_waiting_for_a_cell_that_does_not(self):
        sheet = sheet_by({"a1": "= b1", "b1": "= 5", "c1": "= d1", "d1": 4})
        self.assert_wrong(sheet, {A1: ("waits", B1, (("at", B1),)), B1: ("worth", 5, ()), C1: ("worth", 4, (("at", D1),))})
        self.assert_wrong(sheet, {A1: ("worth", 5, (("at", B1),)), B1: ("worth", 5, ()), C1: ("waits", D1, (("at", D1),))})

    def test_waiting_without_need(self):
        # Each look tells its entry, by what is told, but what is waited for has no wait of its own.
        sheet = sheet_by({"a1": "= b1", "b1": "= 5"})
        self.assert_wrong(sheet, {A1: ("waits", B1, (("at", B1),)), B1: ("waits", B1, ())})
        self.assert_wrong(sheet, {A1: ("waits", B1, (("at", B1),)), B1: ("waits", A1, (("at", A1),))})


class RoundReads(unittest.TestCase):
    def told_by_looks(self, sheet, book):
        """Each look tells the entry: so the ring alone makes the book a wrong one."""
        worths = {place: entry[1] for place, entry in book.items() if entry[0] == "worth"}
        waiting = [place for place, entry in book.items() if entry[0] == "waits"]
        for place, content in sheet.items():
            if not isinstance(content, tuple):
                worths[place] = content
        for place in formula_places(sheet):
            self.assertEqual(look_at(sheet[place], worths, waiting), book[place])

    def test_a_ring_of_one_cell(self):
        for worth in (5, 0, None, "a", KIND):
            for place in (A1, C1, (98, 25)):
                sheet = {place: at(*place)}
                book = {place: ("worth", worth, (("at", place),))}
                self.told_by_looks(sheet, book)
                self.assertIs(right_book(sheet, book), False)
                self.assertEqual(round_read(sheet, book), place)

    def test_a_cell_within_its_own_area(self):
        sheet = {B1: ("least", (0, 0, 0, 3), LOOSE), A1: 7}
        for worth, end in ((3, D1), (7, D1), (KIND, B1)):
            book = {B1: ("worth", worth, (("part", (0, 0, 0, 3), end),))}
            self.told_by_looks(sheet, book)
            self.assertIs(right_book(sheet, book), False)
            self.assertEqual(round_read(sheet, book), B1)
        # Ahead of itself it has not read itself.
        self.assertIsNone(round_read(sheet, {B1: ("worth", KIND, (("part", (0, 0, 0, 3), A1),))}))

    def test_rings_of_several_cells(self):
        chance = random.Random(14)
        for many in (2, 3, 7, 200):
            spots = [(number // 20 + 5, number % 20) for number in range(many)]
            order = list(spots)
            chance.shuffle(order)
            sheet = made_sheet([(place, at(*order[(number + 1) % many])) for number, place in enumerate(order)])
            for worth in (5, None, LOST):
                book = {place: ("worth", worth, (("at", sheet[place][1]),)) for place in order}
                self.told_by_looks(sheet, book)
                self.assertIs(right_book(sheet, book), False)
                self.assertEqual(round_read(sheet, book), spots[0])

    def test_cells_that_only_lead_into_a_ring_or_out_of_it(self):
        # a1 leads into c1 d1; b1 stands between e1 and the other ring; f1 is read by a ring.
        told = {"a1": "= c1", "c1": "= d1", "d1": "= c1 + f1", "f1": "= 0"}
        sheet = sheet_by(told)
        book = {spot(name): ("worth", 0, ()) for name in told}
        for name, reads in (("a1", "c1"), ("c1", "d1"), ("d1", "c1 f1")):
            book[spot(name)] = ("worth", 0, tuple(("at", spot(read)) for read in reads.split()))
        self.told_by_looks(sheet, book)
        self.assertEqual(round_read(sheet, book), C1)
        self.assertIs(right_book(sheet, book), False)
        between = sheet_by({"a1": "= e1", "b1": "= f1", "c1": "= d1", "d1": "= b1 + d1", "e1": "= c1 + d1", "f1": "= g1",
                            "g1": "= f1"})
        reads = {"a1": "e1", "b1": "f1", "c1": "d1", "d1": "b1 d1", "e1": "c1 d1", "f1": "g1", "g1": "f1"}
        book = {spot(name): ("worth", 0, tuple(("at", spot(read)) for read in row.split())) for name, row in reads.items()}
        self.told_by_looks(between, book)
        self.assertEqual(round_read(between, book), D1)

    def test_a_ring_beside_right_entries(self):
        chance = random.Random(15)
        for _ in range(50):
            sheet = some_sheet(chance)
            sheet[(7, 7)], sheet[(7, 8)] = at(7, 8), at(7, 7)
            book = fresh_book(sheet)
            self.assertIs(right_book(sheet, book), True)
            book[(7, 7)], book[(7, 8)] = ("worth", 1, (("at", (7, 8)),)), ("worth", 1, (("at", (7, 7)),))
            self.assertIs(right_book(sheet, book), False)
            self.assertEqual(round_read(sheet, book), (7, 7))

    def test_cells_told_as_waiting_are_in_no_such_ring(self):
        sheet = {A1: at(0, 1), B1: at(0, 0)}
        both = fresh_book(sheet)
        self.assertEqual(both[A1], ("waits", B1, (("at", B1),)))
        self.assertIsNone(round_read(sheet, both))
        self.assertIsNone(round_read(sheet, with_entry(both, A1, ("worth", 5, (("at", B1),)))))

    def test_places_without_formulas_are_in_no_such_ring(self):
        for sheet in ({A1: at(0, 1), B1: 5}, {A1: at(0, 1)}):
            book = {A1: ("worth", 5, (("at", B1),)), B1: ("worth", 5, (("at", A1),)), (99, 0): ("worth", 5, (("at", (99, 0)),))}
            self.assertIsNone(round_read(sheet, book))
            self.assertIs(right_book(sheet, book), False)
        # Nor are cells for which there is no entry.
        self.assertIsNone(round_read({A1: at(0, 1), B1: at(0, 0)}, {A1: ("worth", 5, (("at", B1),))}))

    def test_items_that_are_none_hold_no_place(self):
        sheet = {place: at(*place) for place in (A1, B1, C1, D1, (0, 4), (1, 0), (3, 3), (98, 25))}
        for item in NO_ITEMS:
            book = {place: ("worth", 5, (item,)) for place in sheet}
            self.assertIsNone(round_read(sheet, book), item)
            self.assertIs(right_book(sheet, book), False)
            book[C1] = ("worth", 5, (item, ("at", D1)))
            book[D1] = ("worth", 5, (("at", B1), item, ("part", (0, 1, 0, 2), C1)))
            self.assertEqual(round_read(sheet, book), C1, item)

    def test_the_greatest_area_is_still_one(self):
        sheet = {(11, 24): ("sum", (0, 0, 11, 24), LOOSE)}
        for end, place in (((11, 24), (11, 24)), ((11, 23), None)):
            book = {(11, 24): ("worth", 0, (("part", (0, 0, 11, 24), end),))}
            self.assertEqual(round_read(sheet, book), place)

    def test_by_chance(self):
        chance = random.Random(16)
        places = [(row, column) for row in range(3) for column in range(4)]
        rings = 0
        for _ in range(400):
            sheet = {place: num(1) if chance.randrange(6) else 1 for place in places if chance.randrange(9)}
            book = {}
            for place in places:
                items = [("at", chance.choice(places)) for _ in range(chance.choice([0, 1, 1, 2]))]
                if chance.randrange(6) == 0:
                    top, left = chance.randrange(2), chance.randrange(3)
                    items.append(("part", (top, left, top + 1, left + 1), (top + chance.randrange(2), left + 1)))
                book[place] = (chance.choice(["worth"] * 5 + ["waits"]), (0, 0), tuple(items))
            told = round_read(sheet, book)
            self.assertEqual(told, slow_round(sheet, book))
            rings += told is not None
        self.assertGreater(rings, 100)
        self.assertLess(rings, 300)

    def test_great_rings_are_told_soon(self):
        # Of 200 cells each reads all others: by looking at each way by itself this would not end.
        places = [(row, column) for row in range(20) for column in range(10)]
        sheet = {place: ("sum", (0, 0, 19, 9), LOOSE) for place in places}
        book = {place: ("worth", 0, (("part", (0, 0, 19, 9), (19, 9)),)) for place in places}
        self.assertEqual(round_read(sheet, book), (0, 0))
        self.assertIs(right_book(sheet, book), False)


class JustOneBook(unittest.TestCase):
    def test_no_other_book_is_right(self):
        # All books of two cells with such worths and reads: just the reckoned one is right.
        items = [("at", A1), ("at", B1), ("at", C1)]
        rows = [()] + [(one,) for one in items] + [(one, other) for one in items for other in items if one != other]
        entries = [("worth", worth, reads) for worth in (0, 1, 2, None) for reads in rows]
        entries += [("waits", place, reads) for place in (A1, B1) for reads in rows]
        for told in ({"a1": "= b1", "b1": "= a1"}, {"a1": "= c1", "b1": "= a1"}, {"a1": "= if(c1, b1, a1)", "b1": "= 2"},
                     {"a1": "= if(c1 - 1, b1, a1)", "b1": "= 2 + a1"}, {"a1": "= b1 + c1", "b1": "= b1"}):
            sheet = sheet_by(dict(told, c1=1))
            right = [{A1: one, B1: other} for one in entries for other in entries
                     if right_book(sheet, {A1: one, B1: other})]
            self.assertEqual(right, [fresh_book(sheet)])


if __name__ == "__main__":
    unittest.main()
