"""Promises 11.1 to 11.3: tables, the order of worths and of rows, rows that fit, tables taken from and put."""

import copy
import itertools
import random
import unittest

from helper import RefusalChecks, sheet_by, spot
from onelook.areas import read_area
from onelook.fresh import fresh_book, waiting_in, worths_by
from onelook.sheets import made_sheet, with_cells
from onelook.tables import column_of, fitting, order_by, put_table, right_order, rows_taken, table_of

GREAT = 10 ** 60
# In the order of worths.
WORTHS = [-GREAT, -1, 0, 1, 2, 10, GREAT, "", " ", "0", "10", "2", "A", "a", "aa", "b", None]


def table_by(told, area):
    sheet = sheet_by(told)
    book = fresh_book(sheet)
    return table_of(worths_by(sheet, book), waiting_in(book), read_area(area))


def some_table(chance, wide, most):
    heads = tuple("h" + str(number) for number in range(wide))
    pool = chance.sample(WORTHS, chance.choice([2, 4, len(WORTHS)]))
    return (heads, tuple(tuple(chance.choice(pool) for _ in heads) for _ in range(chance.randrange(most))))


def goes_ahead(table, by, one, other):
    """Whether a row goes ahead of another one, as the promise says it."""
    for head, way in by:
        place = table[0].index(head)
        ranks = [WORTHS.index(table[1][number][place]) for number in (one, other)]
        if ranks[0] != ranks[1]:
            return (ranks[1] - ranks[0]) * way > 0
    return one < other


def slow_order(table, by):
    """By how many rows go ahead of each."""
    numbers = range(len(table[1]))
    aheads = {number: sum(goes_ahead(table, by, other, number) for other in numbers) for number in numbers}
    return sorted(numbers, key=aheads.get)


class TableOf(unittest.TestCase, RefusalChecks):
    def test_one_row(self):
        self.assertEqual(table_by({"a1": "x"}, "a1:a1"), (("x",), ()))
        self.assertEqual(table_by({"c4": "x", "d4": " ", "e4": "0"}, "c4:e4"), (("x", " ", "0"), ()))

    def test_one_column(self):
        told = {"b2": "x", "b3": 5, "b5": "y", "b6": "= b3 + 1"}
        self.assertEqual(table_by(told, "b2:b7"), (("x",), ((5,), (None,), ("y",), (6,), (None,))))
        full = {"z1": "x"}
        full.update({"z" + str(row): row for row in range(2, 100)})
        self.assertEqual(table_by(full, "z1:z99"), (("x",), tuple((row,) for row in range(2, 100))))

    def test_many_columns(self):
        letters = "abcdefghijklmnopqrstuvwxyz"
        told = {letter + "3": letter for letter in letters}
        told.update({"a4": 1, "z5": 2, "z13": "last"})
        heads, rows = table_by(told, "a3:z13")
        self.assertEqual(heads, tuple(letters))
        self.assertEqual(rows[0], (1,) + (None,) * 25)
        self.assertEqual(rows[1], (None,) * 25 + (2,))
        self.assertEqual(rows[2:9], ((None,) * 26,) * 7)
        self.assertEqual(rows[9], (None,) * 25 + ("last",))
        self.assertEqual(len(rows), 10)

    def test_heads_that_are_reckoned_and_rows_alike(self):
        told = {"a1": "= \"x\" & 1", "b1": "= a1 & a1", "a2": 1, "b2": 1, "a3": 1, "b3": 1, "a4": "= z9", "b4": "= z9 & \"\""}
        self.assertEqual(table_by(told, "a1:b4"), (("x1", "x1x1"), ((1, 1), (1, 1), (None, ""))))

    def test_bad_areas(self):
        for area in [(1, 0, 0, 0), (0, 1, 0, 0), (-1, 0, 3, 3), (0, 0, 99, 0), (0, 0, 0, 26), (0, 0, 11, 25), (0, 0, 100, 3)]:
            # Ahead of all that the cells would be refused for.
            self.refused("BadArea", table_of, {}, [], area)
            self.refused("BadArea", table_of, {(0, 0): ("fault", "kind")}, [(0, 1)], area)

    def test_cells_that_wait_or_are_faults(self):
        told = {"a1": "x", "b1": "y", "a2": "= a2", "b3": "= 1 / 0", "c4": "= c4", "d4": "= lost"}
        self.assertEqual(table_by(told, "a1:b1"), (("x", "y"), ()))
        for area in ["a1:b2", "a1:a2", "b1:b3", "a1:b4"]:
            self.refused("BadTable", table_by, told, area)
        self.assertEqual(table_by(told, "b1:b2"), (("y",), ((None,),)))
        for head in ["= a1", "= lost"]:
            self.refused("BadTable", table_by, {"a1": head, "b1": "y"}, "a1:b1")

    def test_waiting_as_list_tuple_and_dict(self):
        for waiting in [[(1, 0)], ((1, 0),), {(1, 0): True}]:
            self.refused("BadTable", table_of, {(0, 0): "x"}, waiting, (0, 0, 1, 0))
            self.assertEqual(table_of({(0, 0): "x"}, waiting, (0, 0, 0, 0)), (("x",), ()))

    def test_bad_heads(self):
        for head in [None, "= \"\"", "", 5, 0, "= 1", "y"]:
            told = {"a1": head, "b1": "y", "a2": 1, "b2": 2}
            if head is None:
                told.pop("a1")
            self.refused("BadTable", table_by, told, "a1:b1")
            self.refused("BadTable", table_by, told, "a1:b2")
            self.assertEqual(table_by(told, "b1:b2"), (("y",), ((2,),)))
        self.refused("BadTable", table_by, {"a1": "y", "b1": "x", "c1": "y"}, "a1:c1")
        self.refused("BadTable", table_by, {}, "a1:a1")

    def test_nothing_is_changed(self):
        worths, waiting = {(0, 0): "x", (1, 0): 4}, [(5, 5)]
        table = table_of(worths, waiting, (0, 0, 1, 0))
        self.assertEqual((worths, waiting), ({(0, 0): "x", (1, 0): 4}, [(5, 5)]))
        worths[(1, 0)] = 9
        self.assertEqual(table, (("x",), ((4,),)))


class Columns(unittest.TestCase, RefusalChecks):
    def test_columns(self):
        table = (("x", "y"), ((1, "a"), (None, 2), (1, "")))
        self.assertEqual(column_of(table, "x"), [1, None, 1])
        self.assertEqual(column_of(table, "y"), ["a", 2, ""])
        self.assertEqual(column_of((("x",), ()), "x"), [])

    def test_no_column(self):
        for head in ["z", "", "X", "xy", "a"]:
            self.refused("NoColumn", column_of, (("x", "y"), ((1, "a"),)), head)

    def test_the_list_is_the_askers_own(self):
        table = (("x",), ((1,), (2,)))
        column_of(table, "x").append(3)
        self.assertEqual(column_of(table, "x"), [1, 2])


class Order(unittest.TestCase, RefusalChecks):
    def assert_order(self, table, by, numbers):
        self.assertEqual(order_by(table, by), numbers)
        self.assertEqual(order_by(table, tuple(by)), numbers)
        self.assertIs(right_order(table, by, numbers), True)
        self.assertIs(right_order(table, tuple(by), tuple(numbers)), True)

    def test_no_pair_and_no_rows(self):
        table = (("x",), ((3,), (1,), (2,)))
        self.assert_order(table, [], [0, 1, 2])
        self.assert_order((("x",), ()), [("x", 1)], [])
        self.assert_order((("x",), ()), [], [])

    def test_one_pair_both_ways(self):
        table = (("x",), ((3,), (1,), (2,), (1,)))
        self.assert_order(table, [("x", 1)], [1, 3, 2, 0])
        # Rows alike stay by their numbers.
        self.assert_order(table, [("x", -1)], [0, 2, 1, 3])

    def test_numbers_texts_and_blanks(self):
        chance = random.Random(121)
        for _ in range(30):
            mixed = list(WORTHS)
            chance.shuffle(mixed)
            table = (("x",), tuple((worth,) for worth in mixed))
            due = [mixed.index(worth) for worth in WORTHS]
            self.assert_order(table, [("x", 1)], due)
            self.assert_order(table, [("x", -1)], due[::-1])

    def test_several_pairs(self):
        table = (("x", "y"), ((2, "a"), (1, "b"), (2, "b"), (1, "a"), (2, "a")))
        self.assert_order(table, [("x", 1), ("y", 1)], [3, 1, 0, 4, 2])
        self.assert_order(table, [("x", 1), ("y", -1)], [1, 3, 2, 0, 4])
        self.assert_order(table, [("x", -1), ("y", 1)], [0, 4, 2, 3, 1])
        self.assert_order(table, [("y", -1), ("x", -1)], [2, 1, 0, 4, 3])
        # A head that stands again has no more to say.
        self.assert_order(table, [("x", 1), ("x", -1), ("y", 1)], [3, 1, 0, 4, 2])

    def test_rows_alike(self):
        table = (("x", "y"), ((1, 0),) * 4)
        for by in [[], [("x", 1)], [("x", -1)], [("y", -1), ("x", -1)]]:
            self.assert_order(table, by, [0, 1, 2, 3])
        # Blank, 0 and the empty text are unlike one another.
        self.assert_order((("x",), ((None,), ("",), (0,), (None,), ("",), (0,))), [("x", 1)], [2, 5, 1, 4, 0, 3])

    def test_tables_by_chance(self):
        chance = random.Random(122)
        for _ in range(200):
            table = some_table(chance, 3, chance.choice([2, 5, 12, 99]))
            by = [(chance.choice(table[0]), chance.choice([1, -1])) for _ in range(chance.randrange(4))]
            self.assert_order(table, by, slow_order(table, by))

    def test_right_of_all_lists(self):
        table = (("x",), ((2,), (1,), (2,)))
        for way, due in [(1, [1, 0, 2]), (-1, [0, 2, 1])]:
            for numbers in itertools.product(range(-1, 4), repeat=3):
                self.assertIs(right_order(table, [("x", way)], list(numbers)), list(numbers) == due)

    def test_wrong_lists(self):
        chance = random.Random(123)
        for _ in range(100):
            table = some_table(chance, 2, 9)
            by = [(head, chance.choice([1, -1])) for head in table[0]]
            right = order_by(table, by)
            many = len(right)
            wrong = [right + [many], right + [-1], right + [GREAT], right + [-GREAT]]
            if many:
                wrong += [right[1:], right[:-1], right + right[:1], right + right[-1:], right[:1] + right]
                wrong += [right[1:] + [many], [-1] + right[1:], right[:-1] + [right[-1] - many]]
            for one, other in itertools.combinations(range(many), 2):
                exchanged = list(right)
                exchanged[one], exchanged[other] = right[other], right[one]
                wrong.append(exchanged)
            for numbers in wrong:
                self.assertIs(right_order(table, by, numbers), False, (table, by, numbers))

    def test_no_column(self):
        table = (("x", "y"), ((1, 2), (3, 4)))
        for by in [[("z", 1)], [("x", 1), ("z", -1)], [("z", 1), ("x", 1)], [("", 1)]]:
            self.refused("NoColumn", order_by, table, by)
            # Also where the list would be a wrong one.
            for numbers in [[0, 1], [0], [], [7, -7]]:
                self.refused("NoColumn", right_order, table, by, numbers)
            self.refused("NoColumn", order_by, (table[0], ()), by)

    def test_nothing_is_changed(self):
        table, by = (("x",), ((3,), (1,))), [("x", 1)]
        numbers = order_by(table, by)
        self.assertEqual(order_by(table, by), numbers)
        right_order(table, by, numbers)
        self.assertEqual((table, by, numbers), ((("x",), ((3,), (1,))), [("x", 1)], [1, 0]))
        numbers.clear()
        self.assertEqual(order_by(table, by), [1, 0])


class Fitting(unittest.TestCase, RefusalChecks):
    table = (("x", "y"), ((5, 1), ("5", 1), (None, 1), (0, 1), ("", 1), (7, None), ("b", 1), (-3, 1), (5, 1)))

    def test_numbers(self):
        self.assertEqual(fitting(self.table, "x", "=", 5), [0, 8])
        self.assertEqual(fitting(self.table, "x", "<", 5), [3, 7])
        self.assertEqual(fitting(self.table, "x", ">", 5), [5])
        self.assertEqual(fitting(self.table, "x", ">", 4), [0, 5, 8])
        self.assertEqual(fitting(self.table, "x", "=", 9), [])

    def test_texts(self):
        self.assertEqual(fitting(self.table, "x", "=", "5"), [1])
        self.assertEqual(fitting(self.table, "x", "<", "b"), [1, 4])
        self.assertEqual(fitting(self.table, "x", ">", "5"), [6])
        self.assertEqual(fitting(self.table, "x", ">", ""), [1, 6])
        self.assertEqual(fitting(self.table, "x", "<", ""), [])

    def test_blanks_never_fit(self):
        self.assertEqual(fitting(self.table, "x", "=", 0), [3])
        self.assertEqual(fitting(self.table, "x", "=", ""), [4])
        self.assertEqual(fitting(self.table, "y", "=", 0), [])
        self.assertEqual(fitting(self.table, "y", "<", 9), [0, 1, 2, 3, 4, 6, 7, 8])
        self.assertEqual(fitting(self.table, "y", ">", -9), [0, 1, 2, 3, 4, 6, 7, 8])
        self.assertEqual(fitting(self.table, "y", "<", "z"), [])
        self.assertEqual(fitting(self.table, "y", ">", ""), [])

    def test_each_worth_beside_each_key(self):
        table = (("x",), tuple((worth,) for worth in WORTHS))
        for key in WORTHS[:-1]:
            kind = type(key)
            beside = [(number, worth) for number, worth in enumerate(WORTHS) if isinstance(worth, kind)]
            self.assertEqual(fitting(table, "x", "=", key), [number for number, worth in beside if worth == key])
            self.assertEqual(fitting(table, "x", "<", key), [number for number, worth in beside if worth < key])
            self.assertEqual(fitting(table, "x", ">", key), [number for number, worth in beside if worth > key])

    def test_no_rows_and_no_column(self):
        self.assertEqual(fitting((("x",), ()), "x", "=", 5), [])
        for op in ["=", "<", ">"]:
            self.refused("NoColumn", fitting, self.table, "z", op, 5)
            self.refused("NoColumn", fitting, (("x",), ()), "", op, "x")

    def test_the_list_is_the_askers_own(self):
        fitting(self.table, "x", "=", 5).clear()
        self.assertEqual(fitting(self.table, "x", "=", 5), [0, 8])


class RowsTaken(unittest.TestCase, RefusalChecks):
    table = (("x", "y"), ((1, "a"), (2, "b"), (None, "c")))

    def test_rows_in_any_order(self):
        self.assertEqual(rows_taken(self.table, [2, 0, 1]), (("x", "y"), ((None, "c"), (1, "a"), (2, "b"))))
        self.assertEqual(rows_taken(self.table, (1,)), (("x", "y"), ((2, "b"),)))
        self.assertEqual(rows_taken(self.table, [0, 1, 2]), self.table)

    def test_one_several_times_and_none(self):
        self.assertEqual(rows_taken(self.table, [1, 1, 0, 1])[1], ((2, "b"), (2, "b"), (1, "a"), (2, "b")))
        self.assertEqual(rows_taken(self.table, []), (("x", "y"), ()))
        self.assertEqual(rows_taken((("x",), ()), []), (("x",), ()))

    def test_refusals(self):
        for numbers in [[3], [-1], [0, 3], [GREAT], [-GREAT], [-3, 0], [0] * 99 + [3], [-1] + [0] * 200]:
            self.refused("BadCount", rows_taken, self.table, numbers)
        self.refused("BadCount", rows_taken, (("x",), ()), [0])
        self.assertEqual(len(rows_taken(self.table, [2] * 98)[1]), 98)
        for many in [99, 100, 300]:
            self.refused("BadTable", rows_taken, self.table, [2] * many)

    def test_nothing_is_changed(self):
        numbers = [2, 0]
        rows_taken(self.table, numbers)
        self.assertEqual(numbers, [2, 0])

    def test_the_order_taken(self):
        table = (("x",), ((3,), (None,), (1,)))
        self.assertEqual(rows_taken(table, order_by(table, [("x", 1)])), (("x",), ((1,), (3,), (None,))))


class PutTable(unittest.TestCase, RefusalChecks):
    def test_on_an_empty_sheet(self):
        table = (("x", "y"), ((1, "a"), (-2, "")))
        self.assertEqual(put_table({}, spot("b3"), table),
                         sheet_by({"b3": "x", "c3": "y", "b4": 1, "c4": "a", "b5": -2, "c5": ""}))
        self.assertEqual(put_table({}, (0, 0), (("x",), ())), {(0, 0): "x"})

    def test_over_filled_cells(self):
        sheet = sheet_by({"a1": 7, "b1": "= a1", "a2": 8, "b2": 9, "a3": 10, "c1": "= b1"})
        kept = copy.deepcopy(sheet)
        told = put_table(sheet, (0, 0), (("x", "y"), ((None, 5),)))
        self.assertEqual(told, sheet_by({"a1": "x", "b1": "y", "b2": 5, "a3": 10, "c1": "= b1"}))
        self.assertEqual(sheet, kept)
        told.clear()
        self.assertEqual(sheet, kept)
        same = put_table(sheet, spot("z9"), (("x",), ((None,),)))
        self.assertEqual(same, with_cells(sheet, {spot("z9"): "x"}))

    def test_read_back(self):
        chance = random.Random(124)
        for _ in range(100):
            table = some_table(chance, chance.randrange(1, 5), 9)
            place = (chance.randrange(20), chance.randrange(20))
            wide, high = len(table[0]), len(table[1]) + 1
            there = put_table({(place[0] + 1, place[1]): 77}, place, table) if high > 1 else put_table({}, place, table)
            self.assertTrue(all(content is not None for content in there.values()))
            area = place + (place[0] + high - 1, place[1] + wide - 1)
            self.assertEqual(table_of(there, [], area), table)

    def test_at_the_last_lines(self):
        table = (("x", "y"), ((1, 2), (3, 4)))
        self.assertEqual(put_table({}, (96, 24), table)[(98, 25)], 4)
        for place in [(97, 24), (96, 25), (98, 0), (0, 25), (98, 25)]:
            self.refused("NoRoom", put_table, {}, place, table)
        self.assertEqual(put_table({}, (98, 25), (("x",), ())), {(98, 25): "x"})
        tall = (("x",), tuple((number,) for number in range(98)))
        self.assertEqual(len(put_table({}, (0, 25), tall)), 99)
        self.refused("NoRoom", put_table, {}, (1, 25), tall)
        wide = (tuple("abcdefghijklmnopqrstuvwxyz"), ())
        self.assertEqual(len(put_table({}, (98, 0), wide)), 26)
        self.refused("NoRoom", put_table, {}, (98, 1), wide)

    def test_more_than_300(self):
        def table(wide, rows):
            return (tuple("h" + str(number) for number in range(wide)), ((None,) * wide,) * rows)

        self.assertEqual(len(put_table({}, (0, 0), table(4, 74))), 4)
        self.assertEqual(len(put_table({}, (0, 0), table(25, 11))), 25)
        self.refused("NoRoom", put_table, {}, (0, 0), table(4, 75))
        self.refused("NoRoom", put_table, {}, (0, 0), table(7, 42))
        self.refused("NoRoom", put_table, {}, (0, 0), table(26, 11))

    def test_bad_places_go_first(self):
        odd = (("x" * 41,), ((1,),))
        for place in [(-1, 0), (0, -1), (99, 0), (0, 26), (GREAT, 0), (99, 26)]:
            self.refused("BadPlace", put_table, {}, place, (("x",), ()))
            self.refused("BadPlace", put_table, {}, place, odd)
        self.refused("NoRoom", put_table, {}, (98, 0), odd)

    def test_contents_that_no_cell_may_hold(self):
        for worth in ["x" * 41, "a%b", "\"", "~" * 200]:
            self.refused("BadContent", put_table, {}, (0, 0), (("x",), ((worth,),)))
            self.refused("BadContent", put_table, {}, (0, 0), ((worth,), ()))
        self.assertEqual(put_table({}, (0, 0), (("x" * 40,), ((GREAT,),))), {(0, 0): "x" * 40, (1, 0): GREAT})

    def test_full(self):
        filled = made_sheet([((50 + number // 20, number % 20), number) for number in range(190)])
        table = (("x", "y"), ((1, 2), (3, 4), (5, 6), (7, 8)))
        self.assertEqual(len(put_table(filled, (0, 0), table)), 200)
        self.refused("Full", put_table, filled, (0, 0), (table[0], table[1] + ((9, None),)))
        self.refused("BadContent", put_table, filled, (0, 0), (table[0], table[1] + (("%", 1),)))
        # Over filled cells nothing comes to it, and blanks make room.
        self.assertEqual(len(put_table(filled, (50, 0), (table[0], table[1] + ((9, None),)))), 189)


if __name__ == "__main__":
    unittest.main()
