"""Promises 3.3 to 3.5: what a look goes through, what it tells, and what it has read."""

import unittest

from helper import LOOSE, at, num
from onelook.looks import look_at, places_read

KIND, GREAT, NOUGHT, NONE, LOST = [("fault", word) for word in ("kind", "great", "nought", "none", "lost")]
A1, A2, A3, A4 = [(row, 0) for row in range(4)]
B1, B2, B3, B4 = [(row, 1) for row in range(4)]
C1, C2, C3, C4 = [(row, 2) for row in range(4)]
COLUMN = (0, 0, 2, 0)
SQUARE = (0, 0, 1, 1)
TABLE = (0, 0, 3, 2)
KEYS = (0, 0, 3, 0)


def cell(place):
    return ("at", place, (0, 0))


def read(*places):
    return tuple(("at", place) for place in places)


def part(area, place):
    return ("part", area, place)


class Looks(unittest.TestCase):
    def worth(self, formula, worths, worth, reads, waiting=()):
        before = (dict(worths), list(waiting))
        for form in (tuple(waiting), list(waiting), dict.fromkeys(waiting, True), dict.fromkeys(waiting)):
            self.assertEqual(look_at(formula, worths, form), ("worth", worth, reads), formula)
        self.assertIs(type(look_at(formula, worths, waiting)[2]), tuple)
        self.assertEqual((worths, list(waiting)), before)

    def waits(self, formula, worths, waiting, place, reads):
        for form in (tuple(waiting), list(waiting), dict.fromkeys(waiting, True), dict.fromkeys(waiting, False)):
            self.assertEqual(look_at(formula, worths, form), ("waits", place, reads), formula)
        # A row of a look that waits ends with what it waits for.
        self.assertEqual(reads[-1][-1], place)


class Simple(Looks):
    def test_without_cells(self):
        self.worth(num(5), {}, 5, ())
        self.worth(num(10 ** 60), {}, 10 ** 60, ())
        self.worth(("text", "a1"), {A1: 1}, "a1", ())
        self.worth(("text", ""), {}, "", ())
        self.worth(("lost",), {}, LOST, ())

    def test_cells(self):
        for worth in (0, -5, "a", "", None, KIND, LOST):
            self.worth(cell(A1), {A1: worth}, worth, read(A1))
        self.worth(cell(A1), {A2: 5}, None, read(A1))
        self.worth(at(0, 0, (1, 1)), {A1: 5}, 5, read(A1))
        self.worth(cell(A1), {A1: 5}, 5, read(A1), waiting=[A2])
        self.waits(cell(A1), {A2: 5}, [A1], A1, read(A1))

    def test_one_part(self):
        self.worth(("minus", cell(A1)), {A1: 5}, -5, read(A1))
        self.worth(("not", cell(A1)), {A1: 0}, 1, read(A1))
        self.worth(("minus", cell(A1)), {A1: "a"}, KIND, read(A1))
        self.worth(("not", ("lost",)), {}, LOST, ())
        self.worth(("minus", cell(A1)), {A1: NOUGHT}, NOUGHT, read(A1))
        self.waits(("minus", cell(A1)), {}, [A1], A1, read(A1))
        self.waits(("not", cell(A1)), {}, [A1], A1, read(A1))

    def test_each_op(self):
        for op, worth in (("+", 9), ("-", 5), ("*", 14), ("/", 3), ("rest", 1), ("&", "72"), ("<", 0), ("=", 0)):
            self.worth((op, cell(A1), cell(B1)), {A1: 7, B1: 2}, worth, read(A1, B1))


class LeftToRight(Looks):
    def test_a_fault_on_the_left(self):
        for op in ("+", "-", "*", "/", "rest", "&", "<", "="):
            self.worth((op, cell(A1), cell(B1)), {A1: KIND, B1: GREAT}, KIND, read(A1))
            self.worth((op, cell(A1), cell(B1)), {A1: KIND}, KIND, read(A1), waiting=[B1])
            self.worth((op, ("lost",), cell(B1)), {}, LOST, (), waiting=[B1])

    def test_a_fault_on_the_right(self):
        for op in ("+", "-", "*", "/", "rest", "&", "<", "="):
            self.worth((op, cell(A1), cell(B1)), {A1: 1, B1: GREAT}, GREAT, read(A1, B1))
            # What is on the left is no fault before the right is there: its kind is looked at behind.
            self.worth((op, cell(A1), cell(B1)), {A1: "a", B1: GREAT}, GREAT, read(A1, B1))

    def test_a_cell_that_waits(self):
        for op in ("+", "-", "*", "/", "rest", "&", "<", "="):
            self.waits((op, cell(A1), cell(B1)), {B1: KIND}, [A1], A1, read(A1))
            self.waits((op, cell(A1), cell(B1)), {A1: 1}, [B1], B1, read(A1, B1))
            self.waits((op, cell(A1), cell(B1)), {A1: "a"}, [B1], B1, read(A1, B1))
            self.waits((op, cell(A1), cell(B1)), {}, [B1, A1], A1, read(A1))

    def test_none_twice_in_the_order_first_met(self):
        formula = ("+", ("+", cell(B1), cell(A1)), ("+", cell(B1), at(0, 2, (1, 0))))
        self.worth(formula, {A1: 1, B1: 2, C1: 3}, 8, read(B1, A1, C1))
        self.worth(("-", cell(A1), at(0, 0, (1, 1))), {A1: 1}, 0, read(A1))
        self.waits(("+", ("+", cell(B1), cell(B1)), cell(A1)), {}, [A1], A1, read(B1, A1))

    def test_a_left_fault_within_parts(self):
        formula = ("+", ("*", cell(A1), ("/", cell(A2), cell(A3))), cell(A4))
        self.worth(formula, {A1: 1, A2: 1, A3: 0}, NOUGHT, read(A1, A2, A3), waiting=[A4])


class Ifs(Looks):
    IF = ("if", cell(A1), cell(B1), cell(C1))

    def test_the_taken_arm_alone(self):
        for number in (1, -1, 10 ** 60):
            self.worth(self.IF, {A1: number, B1: 5, C1: 6}, 5, read(A1, B1))
            self.worth(self.IF, {A1: number, B1: 5}, 5, read(A1, B1), waiting=[C1])
            self.worth(self.IF, {A1: number, B1: KIND}, KIND, read(A1, B1), waiting=[C1])
        for number in (0, None):
            self.worth(self.IF, {A1: number, B1: 5, C1: 6}, 6, read(A1, C1))
            self.worth(self.IF, {A1: number, C1: "x"}, "x", read(A1, C1), waiting=[B1])
            self.worth(self.IF, {A1: number}, None, read(A1, C1), waiting=[B1])

    def test_no_arm(self):
        for text in ("", "a", "1"):
            self.worth(self.IF, {A1: text}, KIND, read(A1), waiting=[B1, C1])
        self.worth(self.IF, {A1: LOST}, LOST, read(A1), waiting=[B1, C1])
        self.waits(self.IF, {B1: 1, C1: 1}, [A1], A1, read(A1))

    def test_an_arm_that_waits(self):
        self.waits(self.IF, {A1: 1}, [B1, C1], B1, read(A1, B1))
        self.waits(self.IF, {A1: 0}, [B1, C1], C1, read(A1, C1))


class Elses(Looks):
    ELSE = ("else", cell(A1), cell(B1))

    def test_no_fault(self):
        for worth in (0, 5, "", "a", None):
            self.worth(self.ELSE, {A1: worth}, worth, read(A1), waiting=[B1])

    def test_a_fault(self):
        for fault in (KIND, GREAT, NOUGHT, NONE, LOST):
            self.worth(self.ELSE, {A1: fault, B1: 5}, 5, read(A1, B1))
            self.worth(self.ELSE, {A1: fault}, None, read(A1, B1))
            self.worth(self.ELSE, {A1: fault, B1: KIND}, KIND, read(A1, B1))
        self.worth(("else", ("lost",), num(1)), {}, 1, ())

    def test_waiting_is_no_fault(self):
        self.waits(self.ELSE, {B1: 5}, [A1], A1, read(A1))
        self.waits(self.ELSE, {A1: KIND}, [B1], B1, read(A1, B1))


class Gathers(Looks):
    def test_each_word(self):
        worths = {A1: 3, A2: "a", A3: -5}
        for word, worth in (("sum", -2), ("count", 2), ("least", -5), ("greatest", 3)):
            self.worth((word, COLUMN, LOOSE), worths, worth, (part(COLUMN, A3),))

    def test_row_by_row(self):
        self.worth(("sum", SQUARE, LOOSE), {A1: 1, B1: 2, A2: 4, B2: 8, C1: 16}, 15, (part(SQUARE, B2),))
        self.worth(("sum", SQUARE, LOOSE), {A1: 1, B1: KIND, A2: GREAT}, KIND, (part(SQUARE, B1),))
        self.waits(("sum", SQUARE, LOOSE), {A1: 1}, [A2, B2], A2, (part(SQUARE, A2),))

    def test_noughts_and_empty_texts_are_gone_past(self):
        for worths in ({A1: 0, A3: 5}, {A1: "", A3: 5}, {A1: 0, A2: "", A3: 5}, {A2: 0, A3: 5}):
            self.worth(("sum", COLUMN, LOOSE), worths, 5, (part(COLUMN, A3),))
            self.worth(("greatest", COLUMN, LOOSE), worths, 5, (part(COLUMN, A3),))

    def test_one_cell(self):
        area = (0, 0, 0, 0)
        self.worth(("sum", area, LOOSE), {A1: 1}, 1, (part(area, A1),))
        self.worth(("greatest", area, LOOSE), {}, NONE, (part(area, A1),))
        self.waits(("count", area, LOOSE), {}, [A1], A1, (part(area, A1),))

    def test_up_to_the_first_fault(self):
        for word in ("sum", "count", "least", "greatest"):
            self.worth((word, COLUMN, LOOSE), {A1: LOST, A2: KIND}, LOST, (part(COLUMN, A1),), waiting=[A3])
            self.worth((word, COLUMN, LOOSE), {A1: 1, A2: KIND, A3: LOST}, KIND, (part(COLUMN, A2),))
            self.worth((word, COLUMN, LOOSE), {A3: LOST}, LOST, (part(COLUMN, A3),))

    def test_up_to_the_first_that_waits(self):
        for word in ("sum", "count", "least", "greatest"):
            self.waits((word, COLUMN, LOOSE), {A2: KIND}, [A1], A1, (part(COLUMN, A1),))
            self.waits((word, COLUMN, LOOSE), {A1: 1, A3: KIND}, [A2], A2, (part(COLUMN, A2),))
            self.waits((word, COLUMN, LOOSE), {A1: 1}, [A3], A3, (part(COLUMN, A3),))

    def test_great_at_the_end(self):
        top = 10 ** 60
        self.worth(("sum", COLUMN, LOOSE), {A1: top, A2: 1, A3: -1}, top, (part(COLUMN, A3),))
        self.worth(("sum", COLUMN, LOOSE), {A1: top, A2: 1}, GREAT, (part(COLUMN, A3),))
        self.worth(("sum", COLUMN, LOOSE), {A1: top, A2: 1, A3: KIND}, KIND, (part(COLUMN, A3),))

    def test_areas_met_again(self):
        formula = ("+", ("sum", COLUMN, LOOSE), ("+", cell(A2), ("count", COLUMN, (1, 1, 1, 1))))
        self.worth(formula, {A1: 1, A2: 2}, 7, (part(COLUMN, A3), ("at", A2)))
        faulty = ("else", ("sum", COLUMN, LOOSE), ("else", ("count", COLUMN, LOOSE), num(1)))
        self.worth(faulty, {A2: KIND}, 1, (part(COLUMN, A2),))
        other = ("+", ("sum", COLUMN, LOOSE), ("sum", SQUARE, LOOSE))
        self.worth(other, {A1: 1, B2: 5}, 7, (part(COLUMN, A3), part(SQUARE, B2)))

    def test_300_cells_and_somewhat_more(self):
        for area, last in (((0, 0, 11, 24), (11, 24)), ((0, 0, 42, 6), (42, 6))):
            self.worth(("count", area, LOOSE), {A1: 1, last: 1}, 2, (part(area, last),))


class Finds(Looks):
    FIND = ("find", num(7), TABLE, LOOSE)

    def test_up_to_the_find(self):
        worths = {A1: 5, A2: 7, A3: 7, C1: "x", C2: "y", C3: "z"}
        self.worth(self.FIND, worths, "y", (part(KEYS, A2), ("at", C2)), waiting=[A4, B1, B2, C1, C3])
        self.worth(self.FIND, {A1: 7}, None, (part(KEYS, A1), ("at", C1)), waiting=[A2])
        self.worth(self.FIND, {A1: 1, A4: 7, C4: KIND}, KIND, (part(KEYS, A4), ("at", C4)))

    def test_no_find(self):
        self.worth(self.FIND, {A1: 1, A2: "7", B1: 7}, NONE, (part(KEYS, A4),))
        self.worth(self.FIND, {}, NONE, (part(KEYS, A4),))

    def test_a_fault_ahead_of_the_find(self):
        self.worth(self.FIND, {A1: 1, A2: LOST, A3: 7}, LOST, (part(KEYS, A2),), waiting=[A4])
        self.worth(self.FIND, {A1: 7, A2: LOST}, None, (part(KEYS, A1), ("at", C1)))

    def test_a_cell_that_waits(self):
        self.waits(self.FIND, {A1: 1, A3: 7}, [A2], A2, (part(KEYS, A2),))
        self.waits(self.FIND, {A1: 1, A2: 7}, [C2], C2, (part(KEYS, A2), ("at", C2)))
        self.waits(("find", cell(B4), TABLE, LOOSE), {A1: 1}, [B4, A1], B4, read(B4))

    def test_the_key(self):
        keyed = ("find", cell(B4), TABLE, LOOSE)
        self.worth(keyed, {B4: "k", A2: "k", C2: 9}, 9, (("at", B4), part(KEYS, A2), ("at", C2)))
        self.worth(keyed, {B4: GREAT}, GREAT, read(B4), waiting=[A1])
        self.worth(keyed, {}, NONE, read(B4), waiting=[A1])
        self.worth(keyed, {B4: None}, NONE, read(B4), waiting=[A1])

    def test_blank_cells_are_never_found(self):
        for key, other in ((0, ""), ("", 0)):
            formula = ("find", cell(B4), TABLE, LOOSE)
            self.worth(formula, {B4: key, A3: other}, NONE, (("at", B4), part(KEYS, A4)))
            self.worth(formula, {B4: key, A3: key, C3: 1}, 1, (("at", B4), part(KEYS, A3), ("at", C3)))

    def test_of_one_column(self):
        formula = ("find", num(7), KEYS, (1, 1, 1, 1))
        self.worth(formula, {A3: 7}, 7, (part(KEYS, A3), ("at", A3)))
        self.worth(formula, {A3: 8}, NONE, (part(KEYS, A4),))

    def test_of_one_row(self):
        formula = ("find", num(7), (0, 0, 0, 2), LOOSE)
        self.worth(formula, {A1: 7, B1: KIND, C1: 3}, 3, (part((0, 0, 0, 0), A1), ("at", C1)))

    def test_not_from_the_sheets_corner(self):
        area, keys = (5, 3, 8, 6), (5, 3, 8, 3)
        formula = ("find", ("text", "k"), area, LOOSE)
        self.worth(formula, {(7, 3): "k", (7, 6): 4}, 4, (part(keys, (7, 3)), ("at", (7, 6))))

    def test_its_column_as_an_area_of_its_own(self):
        formula = ("+", ("find", num(7), TABLE, LOOSE), ("sum", KEYS, LOOSE))
        self.worth(formula, {A1: 7, C1: 1}, 8, (part(KEYS, A1), ("at", C1), part(KEYS, A4)))
        late = ("+", ("else", ("find", num(8), TABLE, LOOSE), num(0)), ("sum", KEYS, LOOSE))
        self.worth(late, {A1: 7, C1: 1}, 7, (part(KEYS, A4),))


class PlacesRead(unittest.TestCase):
    def test_in_order_each_once(self):
        self.assertEqual(places_read(()), [])
        self.assertEqual(places_read(read(B1, A1)), [B1, A1])
        self.assertEqual(places_read((part(SQUARE, A2),)), [A1, B1, A2])
        self.assertEqual(places_read((part(SQUARE, B2),)), [A1, B1, A2, B2])
        self.assertEqual(places_read((part(SQUARE, A1),)), [A1])
        reads = (("at", A2), part(SQUARE, A2), part(COLUMN, A3), ("at", B1), ("at", C1))
        self.assertEqual(places_read(reads), [A2, A1, B1, A3, C1])
        self.assertEqual(places_read(list(reads)), [A2, A1, B1, A3, C1])

    def test_the_cells_of_a_look(self):
        formula = ("+", ("find", num(7), TABLE, LOOSE), ("sum", SQUARE, LOOSE))
        told = look_at(formula, {A2: 7, C2: 1}, [B2])
        self.assertEqual(places_read(told[2]), [A1, A2, C2, B1, B2])

    def test_a_told_list_is_the_askers_own(self):
        reads = (part(SQUARE, B1),)
        places_read(reads).clear()
        self.assertEqual(places_read(reads), [A1, B1])


if __name__ == "__main__":
    unittest.main()
