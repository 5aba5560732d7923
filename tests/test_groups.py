"""Promises 11.4 to 11.6: groups, sums by groups, sums kept for a further table, tables paired."""

import copy
import random
import unittest

from helper import RefusalChecks
from onelook.groups import groups_by, paired_rows, sums_by, sums_on
from onelook.tables import rows_taken
from onelook.worths import gathered

GREAT = 10 ** 60
WORDS = ["sum", "count", "least", "greatest"]
NONE = ("fault", "none")
# In the order of worths.
WORTHS = [-GREAT, -2, 0, 1, 2, 3, GREAT, "", "0", "a", "ann", "b", "bob", "cid", None]


def some_table(chance, wide, most):
    heads = tuple("h" + str(number) for number in range(wide))
    pool = chance.sample(WORTHS, chance.choice([2, 4, len(WORTHS)]))
    return (heads, tuple(tuple(chance.choice(pool) for _ in heads) for _ in range(chance.randrange(most))))


def slow_groups(table, head):
    column = [row[table[0].index(head)] for row in table[1]]
    told = [(worth, [number for number, other in enumerate(column) if other == worth]) for worth in WORTHS]
    return [pair for pair in told if pair[1]]


def slow_sums(table, head, word, other):
    place = table[0].index(other)
    return [(worth, gathered(word, [table[1][number][place] for number in numbers]))
            for worth, numbers in slow_groups(table, head)]


def slow_turned(table, further, head, other):
    place = table[0].index(other)
    before = {worth: [table[1][number][place] for number in numbers] for worth, numbers in slow_groups(table, head)}
    return [worth for worth, numbers in slow_groups(further, head)
            if worth not in before or before[worth] != [further[1][number][place] for number in numbers]]


SALES = (("who", "what", "many"), (
    ("ann", 1, 5), ("bob", 2, 7), ("ann", 2, -1), (None, 1, 4), ("cid", 1, "x"), (3, 2, None), ("bob", 1, 9)))


class Groups(unittest.TestCase, RefusalChecks):
    def test_groups(self):
        self.assertEqual(groups_by(SALES, "who"), [(3, [5]), ("ann", [0, 2]), ("bob", [1, 6]), ("cid", [4]), (None, [3])])
        self.assertEqual(groups_by(SALES, "what"), [(1, [0, 3, 4, 6]), (2, [1, 2, 5])])
        self.assertEqual(groups_by((("x",), ()), "x"), [])

    def test_a_worth_is_alike_itself_alone(self):
        table = (("x",), ((None,), ("",), (0,), ("0",), (None,), (0,)))
        self.assertEqual(groups_by(table, "x"), [(0, [2, 5]), ("", [1]), ("0", [3]), (None, [0, 4])])

    def test_kinds(self):
        for pair in groups_by(SALES, "who"):
            self.assertIsInstance(pair, tuple)
            self.assertIsInstance(pair[1], list)

    def test_tables_by_chance(self):
        chance = random.Random(131)
        for _ in range(150):
            table = some_table(chance, 2, chance.choice([3, 12, 99]))
            for head in table[0]:
                self.assertEqual(groups_by(table, head), slow_groups(table, head))

    def test_no_column(self):
        for head in ["", "Who", "ann"]:
            self.refused("NoColumn", groups_by, SALES, head)
            self.refused("NoColumn", groups_by, (("x",), ()), head)

    def test_the_lists_are_the_askers_own(self):
        told = groups_by(SALES, "who")
        told[1][1].append(99)
        told.pop()
        self.assertEqual(groups_by(SALES, "who"), slow_groups(SALES, "who"))
        first = groups_by(SALES, "what")
        self.assertIsNot(first[0][1], groups_by(SALES, "what")[0][1])


class Sums(unittest.TestCase, RefusalChecks):
    def test_each_word(self):
        self.assertEqual(sums_by(SALES, "who", "sum", "many"), [(3, 0), ("ann", 4), ("bob", 16), ("cid", 0), (None, 4)])
        self.assertEqual(sums_by(SALES, "who", "count", "many"), [(3, 0), ("ann", 2), ("bob", 2), ("cid", 0), (None, 1)])
        self.assertEqual(
            sums_by(SALES, "who", "least", "many"), [(3, NONE), ("ann", -1), ("bob", 7), ("cid", NONE), (None, 4)])
        self.assertEqual(
            sums_by(SALES, "who", "greatest", "many"), [(3, NONE), ("ann", 5), ("bob", 9), ("cid", NONE), (None, 4)])

    def test_the_same_column_for_both(self):
        table = (("x",), ((2,), (3,), (2,), ("a",), (None,)))
        self.assertEqual(sums_by(table, "x", "sum", "x"), [(2, 4), (3, 3), ("a", 0), (None, 0)])
        self.assertEqual(sums_by(table, "x", "least", "x"), [(2, 2), (3, 3), ("a", NONE), (None, NONE)])

    def test_beyond_the_bounds(self):
        table = (("x", "y"), ((1, GREAT), (1, 1), (2, GREAT), (2, 1), (2, -1), (3, -GREAT), (3, -1)))
        self.assertEqual(
            sums_by(table, "x", "sum", "y"), [(1, ("fault", "great")), (2, GREAT), (3, ("fault", "great"))])
        self.assertEqual(sums_by(table, "x", "greatest", "y"), [(1, GREAT), (2, GREAT), (3, -1)])

    def test_no_rows(self):
        for word in WORDS:
            self.assertEqual(sums_by((("x", "y"), ()), "x", word, "y"), [])

    def test_tables_by_chance(self):
        chance = random.Random(132)
        for _ in range(150):
            table = some_table(chance, 3, chance.choice([3, 12, 99]))
            head, other, word = chance.choice(table[0]), chance.choice(table[0]), chance.choice(WORDS)
            told = sums_by(table, head, word, other)
            self.assertEqual(told, slow_sums(table, head, word, other))
            self.assertEqual(sums_by(table, head, word, other), told)

    def test_no_column(self):
        self.refused("NoColumn", sums_by, SALES, "x", "sum", "many")
        self.refused("NoColumn", sums_by, SALES, "who", "sum", "x")
        self.refused("NoColumn", sums_by, SALES, "x", "sum", "y")
        self.refused("NoColumn", sums_by, (("x",), ()), "x", "sum", "y")

    def test_the_list_is_the_askers_own(self):
        sums_by(SALES, "who", "sum", "many").clear()
        self.assertEqual(len(sums_by(SALES, "who", "sum", "many")), 5)


class SumsOn(unittest.TestCase, RefusalChecks):
    def assert_on(self, rows, sums, turned, word="sum"):
        further = (SALES[0], tuple(rows))
        before = sums_by(SALES, "who", word, "many")
        kept = list(before)
        told = sums_on(SALES, before, further, "who", word, "many")
        self.assertIsInstance(told, tuple)
        self.assertEqual(told, (sums, turned))
        self.assertEqual(sums_on(SALES, tuple(before), further, "who", word, "many"), told)
        self.assertEqual(sums_by(further, "who", word, "many"), sums)
        self.assertEqual(before, kept)

    def rows_with(self, number, row):
        rows = list(SALES[1])
        rows[number] = row
        return rows

    def test_no_group_turned(self):
        sums = sums_by(SALES, "who", "sum", "many")
        self.assert_on(SALES[1], sums, [])
        # Worths of a column that is not gathered count for nothing.
        self.assert_on(self.rows_with(1, ("bob", 99, 7)), sums, [])

    def test_a_worth_put_otherwise(self):
        sums = [(3, 0), ("ann", 4), ("bob", 19), ("cid", 0), (None, 4)]
        self.assert_on(self.rows_with(1, ("bob", 2, 10)), sums, ["bob"])
        # Turned, though the sum is the same: other texts, a blank for a 0, numbers exchanged.
        same = sums_by(SALES, "who", "sum", "many")
        self.assert_on(self.rows_with(4, ("cid", 1, "y")), same, ["cid"])
        self.assert_on(self.rows_with(5, (3, 2, 0)), same, [3])
        self.assert_on(self.rows_with(5, (3, 2, "")), same, [3])

    def test_a_row_more_and_a_row_less(self):
        rows = list(SALES[1])
        self.assert_on(rows + [("ann", 1, 10)], [(3, 0), ("ann", 14), ("bob", 16), ("cid", 0), (None, 4)], ["ann"])
        self.assert_on(rows[1:], [(3, 0), ("ann", -1), ("bob", 16), ("cid", 0), (None, 4)], ["ann"])
        # A row less of a group of one: the group is gone, and no other one turned.
        self.assert_on(rows[:4] + rows[5:], [(3, 0), ("ann", 4), ("bob", 16), (None, 4)], [])
        self.assert_on([], [], [])
        self.assert_on(rows + [(None, 1, None)], sums_by(SALES, "who", "sum", "many"), [None])

    def test_a_group_that_was_not_there(self):
        rows = list(SALES[1])
        self.assert_on(
            rows + [("dan", 1, 2), (0, 1, 3)],
            [(0, 3), (3, 0), ("ann", 4), ("bob", 16), ("cid", 0), ("dan", 2), (None, 4)], [0, "dan"])
        # A row that goes to another group turns both.
        self.assert_on(
            self.rows_with(0, ("bob", 1, 5)), [(3, 0), ("ann", -1), ("bob", 21), ("cid", 0), (None, 4)], ["ann", "bob"])

    def test_rows_in_another_order(self):
        rows = SALES[1][::-1]
        # Row by row the worths of ann and bob are others now.
        self.assert_on(rows, sums_by(SALES, "who", "sum", "many"), ["ann", "bob"])
        # Groups moved past one another, each in its own order.
        moved = rows_taken(SALES, [3, 4, 1, 6, 5, 0, 2])[1]
        self.assert_on(moved, sums_by(SALES, "who", "sum", "many"), [])

    def test_groups_that_did_not_turn_are_taken_from_the_sums(self):
        sums = [(3, 0), ("ann", 44), ("bob", 16), ("cid", 0), (None, 4)]
        told = sums_on(SALES, sums, (SALES[0], SALES[1][:6]), "who", "sum", "many")
        self.assertEqual(told, ([(3, 0), ("ann", 44), ("bob", 7), ("cid", 0), (None, 4)], ["bob"]))

    def test_tables_by_chance(self):
        chance = random.Random(133)
        some = 0
        for _ in range(300):
            table = some_table(chance, 3, chance.choice([3, 12, 40]))
            head, other, word = chance.choice(table[0]), chance.choice(table[0]), chance.choice(WORDS)
            rows = [row for row in table[1] if chance.randrange(8)]
            if chance.randrange(3) == 0:
                rows += some_table(chance, 3, 3)[1]
            further = (table[0], tuple(rows))
            sums = sums_by(table, head, word, other)
            kept = copy.deepcopy(sums)
            told = sums_on(table, sums, further, head, word, other)
            turned = slow_turned(table, further, head, other)
            self.assertEqual(told, (slow_sums(further, head, word, other), turned))
            self.assertEqual(sums, kept)
            some += 0 < len(turned) < len(told[0])
        self.assertGreater(some, 50)

    def test_refusals(self):
        sums = sums_by(SALES, "who", "sum", "many")
        for heads in [("who", "many", "what"), ("who", "what"), ("who", "what", "many", "x"), ("x", "y", "z")]:
            further = (heads, ())
            self.refused("BadTable", sums_on, SALES, sums, further, "who", "sum", "many")
            # Ahead of a head that is none.
            self.refused("BadTable", sums_on, SALES, sums, further, "nobody", "sum", "many")
        self.refused("NoColumn", sums_on, SALES, sums, SALES, "nobody", "sum", "many")
        self.refused("NoColumn", sums_on, SALES, sums, SALES, "who", "sum", "nothing")
        self.refused("NoColumn", sums_on, SALES, sums, (SALES[0], ()), "nobody", "sum", "nothing")

    def test_the_lists_are_the_askers_own(self):
        sums = sums_by(SALES, "who", "sum", "many")
        told = sums_on(SALES, sums, SALES, "who", "sum", "many")
        self.assertIsNot(told[0], sums)
        told[0].clear()
        told[1].append(1)
        self.assertEqual(sums_on(SALES, sums, SALES, "who", "sum", "many"), (sums, []))
        self.assertEqual(len(sums), 5)


class Paired(unittest.TestCase, RefusalChecks):
    def test_numbers_texts_and_blanks(self):
        one = (("x", "z"), ((5, 0), ("5", 0), (None, 0), (0, 0), ("", 0), ("a", 0)))
        other = (("y",), (("a",), (None,), (5,), ("",), (0,), ("5",), (7,)))
        self.assertEqual(paired_rows(one, "x", other, "y"), [(0, 2), (1, 5), (3, 4), (4, 3), (5, 0)])
        self.assertEqual(paired_rows(other, "y", one, "x"), [(0, 5), (2, 0), (3, 4), (4, 3), (5, 1)])
        self.assertEqual(paired_rows(one, "z", other, "y"), [(number, 4) for number in range(6)])

    def test_several_rows_alike(self):
        one = (("x",), ((1,), (2,), (1,), (None,)))
        other = (("x",), ((2,), (1,), (1,), (None,), (2,)))
        self.assertEqual(paired_rows(one, "x", other, "x"), [(0, 1), (0, 2), (1, 0), (1, 4), (2, 1), (2, 2)])
        self.assertEqual(paired_rows(one, "x", one, "x"), [(0, 0), (0, 2), (1, 1), (2, 0), (2, 2)])

    def test_no_rows(self):
        for one, other in [((), ((1,),)), (((1,),), ()), ((), ())]:
            self.assertEqual(paired_rows((("x",), one), "x", (("y",), other), "y"), [])

    def test_tables_by_chance(self):
        chance = random.Random(134)
        for _ in range(100):
            one, other = some_table(chance, 1, 30), some_table(chance, 2, 30)
            due = [(number, beside) for number, row in enumerate(one[1]) for beside, told in enumerate(other[1])
                   if row[0] is not None and row[0] == told[1]]
            self.assertEqual(paired_rows(one, "h0", other, "h1"), due)

    def test_no_column(self):
        one, other = (("x",), ((1,),)), (("y",), ((1,),))
        self.assertEqual(paired_rows(one, "x", other, "y"), [(0, 0)])
        for head, beside in [("y", "y"), ("x", "x"), ("y", "x"), ("", "y"), ("x", "")]:
            self.refused("NoColumn", paired_rows, one, head, other, beside)
            self.refused("NoColumn", paired_rows, (one[0], ()), head, (other[0], ()), beside)

    def test_the_list_is_the_askers_own(self):
        table = (("x",), ((1,), (1,)))
        paired_rows(table, "x", table, "x").clear()
        self.assertEqual(paired_rows(table, "x", table, "x"), [(0, 0), (0, 1), (1, 0), (1, 1)])


if __name__ == "__main__":
    unittest.main()
