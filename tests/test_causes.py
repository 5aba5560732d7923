"""Promises 6.1 and 6.3: what changes touch and by which cause, and when a wave is right."""

import copy
import random
import unittest

from helper import RefusalChecks, at, cells_by, row_of, sheet_by, some_changes, some_sheet, spot
from onelook.causes import right_wave, touched
from onelook.fresh import fresh_book, stands
from onelook.judge import right_book
from onelook.sheets import with_cells
from onelook.waves import wave_of

OWN = ("own",)
A1, B1, C1, D1 = [(0, column) for column in range(4)]


def causes_by(told, changes):
    """What is touched, by names: `own` or the name of the place."""
    sheet = sheet_by(told)
    now = with_cells(sheet, cells_by(changes))
    return touched(sheet, fresh_book(sheet), now, fresh_book(now))


def caused(told):
    return {spot(name): OWN if cause == "own" else ("read", spot(cause)) for name, cause in told.items()}


def slow_causes(sheet, book, sheet_now, book_now):
    """Each place of each item by itself, as the promise says it."""
    causes = {}
    for cell, content in sheet_now.items():
        if isinstance(content, tuple):
            if sheet.get(cell) != content:
                causes[cell] = OWN
                continue
            for item in book[cell][2]:
                top, left, bottom, right = item[1] + item[1] if item[0] == "at" else item[1]
                for place in [(row, column) for row in range(top, bottom + 1) for column in range(left, right + 1)]:
                    if place <= item[-1] and stands(sheet, book, place) != stands(sheet_now, book_now, place):
                        causes.setdefault(cell, ("read", place))
    return causes


class Touched(unittest.TestCase):
    def assert_causes(self, told, changes, causes):
        self.assertEqual(causes_by(told, changes), caused(causes))

    def test_nothing(self):
        told = {"a1": 5, "b1": "= a1", "c1": "= c1"}
        self.assert_causes(told, {}, {})
        self.assert_causes(told, {"a1": 5, "b1": "= a1", "c1": "= c1"}, {})
        self.assert_causes(told, {"d1": 7, "e1": None}, {})

    def test_another_formula(self):
        told = {"a1": 5, "b1": "= a1", "c1": "= b1"}
        self.assert_causes(told, {"b1": "= a1 + 1"}, {"b1": "own", "c1": "b1"})
        # Of the same worth: the cell itself alone. A pin makes another formula too.
        self.assert_causes(told, {"b1": "= a1 + 0"}, {"b1": "own"})
        self.assert_causes(told, {"b1": "= $a1"}, {"b1": "own"})

    def test_a_formula_where_there_was_none(self):
        self.assert_causes({"c1": "= b1"}, {"b1": "= 5"}, {"b1": "own", "c1": "b1"})
        self.assert_causes({"c1": "= b1"}, {"b1": "= z9"}, {"b1": "own"})
        self.assert_causes({"b1": 5, "c1": "= b1"}, {"b1": "= 5"}, {"b1": "own"})
        self.assert_causes({"b1": 5, "c1": "= b1"}, {"b1": "= 6"}, {"b1": "own", "c1": "b1"})
        self.assert_causes({"b1": "x", "c1": "= b1"}, {"b1": "= 6"}, {"b1": "own", "c1": "b1"})

    def test_a_formula_cleared_or_turned_to_a_number(self):
        told = {"b1": "= 5", "c1": "= b1", "d1": "= sum(a1:b1)"}
        self.assert_causes(told, {"b1": None}, {"c1": "b1", "d1": "b1"})
        self.assert_causes(told, {"b1": 6}, {"c1": "b1", "d1": "b1"})
        self.assert_causes(told, {"b1": 5}, {})
        self.assert_causes({"b1": "= z9", "c1": "= b1"}, {"b1": None}, {})

    def test_own_goes_ahead_of_what_was_read(self):
        self.assert_causes({"a1": 5, "b1": "= a1"}, {"a1": 6, "b1": "= a1 + 1"}, {"b1": "own"})

    def test_a_read_place_that_stands_otherwise(self):
        told = {"a1": 5, "b1": "= a1", "c1": "= b1 < 9", "d1": "= c1", "e1": "= if(1, b1, a1)", "f1": "= if(0, a1, 2)"}
        self.assert_causes(told, {"a1": 6}, {"b1": "a1", "c1": "b1", "e1": "b1"})
        self.assert_causes(told, {"a1": 60}, {"b1": "a1", "c1": "b1", "d1": "c1", "e1": "b1"})
        self.assert_causes(told, {"a1": "x"}, {"b1": "a1", "c1": "b1", "d1": "c1", "e1": "b1"})

    def test_worths_that_are_the_same_by_the_sign_alone_are_unlike(self):
        for one, other in ((None, 0), (None, ""), (0, ""), (0, None), ("", None), (0, "= z9"), ("= z9", ""), (5, "5")):
            causes = {"c1": "a1"}
            if isinstance(other, str) and other[:1] == "=":
                causes["a1"] = "own"
            self.assert_causes({"a1": one, "c1": "= a1 + 1"}, {"a1": other}, causes)

    def test_the_first_place_in_the_order_of_the_items(self):
        told = {"a1": 1, "b1": 2, "c1": 3, "d1": "= c1 + a1 + b1"}
        self.assert_causes(told, {"a1": 7, "b1": 7, "c1": 7}, {"d1": "c1"})
        self.assert_causes(told, {"a1": 7, "b1": 7, "c1": 3}, {"d1": "a1"})
        self.assert_causes(told, {"b1": 7, "a1": 1}, {"d1": "b1"})

    def test_the_first_place_in_the_order_of_an_area(self):
        told = {"a1": 1, "b1": 2, "a2": 3, "b2": 4, "d1": "= sum(a1:b2) + a1", "d2": "= b2 + sum(a1:b2)", "d3": "= a2 + sum(a1:b1)"}
        self.assert_causes(told, {"b1": 7, "a2": 7}, {"d1": "b1", "d2": "b1", "d3": "a2"})
        self.assert_causes(told, {"a2": 7, "b2": 7}, {"d1": "a2", "d2": "b2", "d3": "a2"})
        self.assert_causes(told, {"b2": 7, "a1": 7}, {"d1": "a1", "d2": "b2", "d3": "a1"})

    def test_only_what_was_read(self):
        told = {"a1": 1, "a2": "= 1 / 0", "a3": 5, "b1": 6, "c1": "= sum(a1:a3)", "c2": "= find(1, a1:b3)", "c3": "= else(a1, a3)"}
        self.assert_causes(told, {"a3": 9}, {})
        self.assert_causes(told, {"b1": 9}, {"c2": "b1"})
        self.assert_causes(told, {"a2": 9}, {"c1": "a2"})

    def test_the_old_reads_count_not_the_new_ones(self):
        told = {"a1": 1, "b1": 2, "c1": 3, "d1": "= if(a1, b1, c1)"}
        self.assert_causes(told, {"a1": 0, "c1": 7}, {"d1": "a1"})
        self.assert_causes(told, {"c1": 7}, {})
        self.assert_causes(told, {"a1": 2}, {"d1": "a1"})

    def test_a_place_waited_for_that_has_a_worth_now_and_the_other_way_round(self):
        told = {"a1": "= b1", "b1": "= a1", "c1": "= d1 + a1", "d1": 1}
        self.assert_causes(told, {"b1": 4}, {"a1": "b1", "c1": "a1"})
        self.assert_causes(told, {"b1": "= 4"}, {"b1": "own", "a1": "b1", "c1": "a1"})
        self.assert_causes(told, {"b1": 4, "d1": 2}, {"a1": "b1", "c1": "d1"})
        opened = dict(told, b1=4)
        self.assert_causes(opened, {"b1": "= a1"}, {"b1": "own", "a1": "b1", "c1": "a1"})
        self.assert_causes(opened, {"a1": "= a1"}, {"a1": "own", "c1": "a1"})

    def test_waiting_as_before(self):
        told = {"a1": "= b1", "b1": "= c1 + a1", "c1": 1, "d1": "= a1"}
        self.assert_causes(told, {"c1": 2}, {"b1": "c1"})
        self.assert_causes(told, {"a1": "= b1 + 1"}, {"a1": "own"})
        self.assert_causes(told, {"a1": "= d1"}, {"a1": "own"})

    def test_another_content_that_stands_as_it_stood(self):
        told = {"a1": 5, "b1": "= a1 + 1", "c1": "= b1", "d1": "= sum(a1:c1)"}
        self.assert_causes(told, {"a1": "= 2 + 3"}, {"a1": "own"})
        self.assert_causes(told, {"b1": 6}, {})
        self.assert_causes(told, {"b1": "= 6"}, {"b1": "own"})

    def test_by_chance(self):
        chance = random.Random(31)
        found = {OWN: 0, "read": 0}
        for _ in range(300):
            sheet = some_sheet(chance)
            now = with_cells(sheet, some_changes(chance, sheet))
            handed = (sheet, fresh_book(sheet), now, fresh_book(now))
            before = copy.deepcopy(handed)
            causes = touched(*handed)
            self.assertEqual(causes, slow_causes(*handed))
            self.assertEqual(touched(*handed), causes)
            self.assertEqual(handed, before)
            for cause in causes.values():
                found[cause if cause == OWN else "read"] += 1
            causes.clear()
            self.assertEqual(touched(*handed), slow_causes(*handed))
        self.assertGreater(min(found.values()), 200)


class RightWaves(RefusalChecks, unittest.TestCase):
    CASES = [
        ({"a1": 5, "b1": "= a1 + 1", "c1": "= b1 * 2", "d1": "= a1", "e1": "= if(d1, 1, a1)"}, {"a1": 6}),
        ({"a1": 5, "b1": "= a1 + 1", "c1": "= b1 * 2", "d1": "= 7"}, {"a1": 6, "b1": "= a1 - 1", "d1": None, "e1": "= c1"}),
        ({"a1": 5, "b1": "= a1 + 1", "c1": "= sum(a1:b1)", "d1": "= c1"}, {"a1": "= d1"}),
        ({"a1": "= b1", "b1": "= a1", "c1": "= a1 + d1", "d1": 2, "e1": "= e1"}, {"b1": 4, "d1": 3}),
        ({"a1": "= b1", "b1": "= c1 + a1", "c1": 1, "d1": "= sum(a1:c1)"}, {"c1": 2}),
    ]

    def cases(self):
        chance = random.Random(32)
        for told, changes in self.CASES:
            yield sheet_by(told), cells_by(changes)
        for _ in range(15):
            sheet = some_sheet(chance)
            yield sheet, some_changes(chance, sheet)

    def is_right(self, sheet, changes, book_now, wave):
        handed = (sheet, fresh_book(sheet), changes, book_now, wave)
        before = copy.deepcopy(handed)
        told = right_wave(*handed)
        self.assertIs(right_wave(*handed), told)
        self.assertEqual(handed, before)
        return told

    def assert_wrong(self, sheet, changes, book_now, wave):
        self.assertIs(self.is_right(sheet, changes, book_now, wave), False, (sheet, changes, book_now, wave))

    def test_the_right_one(self):
        chance = random.Random(33)
        cases = list(self.cases())
        for _ in range(100):
            sheet = some_sheet(chance)
            cases.append((sheet, some_changes(chance, sheet)))
        for sheet, changes in cases:
            now, book_now, wave = wave_of(sheet, fresh_book(sheet), changes)
            for told in (wave, tuple(wave)):
                self.assertIs(self.is_right(sheet, changes, book_now, told), True)
            self.assertTrue(right_book(now, book_now))

    def test_no_changes(self):
        sheet = sheet_by({"a1": "= b1", "b1": "= 1"})
        book = fresh_book(sheet)
        for changes in ({}, {(0, 1): ("num", 1)}, {(5, 5): None}, {(5, 5): 3}):
            self.assertIs(self.is_right(sheet, changes, book, []), True)
            self.assertIs(self.is_right(sheet, changes, book, ()), True)
            self.assert_wrong(sheet, changes, book, [(A1, OWN)])
            self.assert_wrong(sheet, changes, book, [(A1, ("read", B1))])
            self.assert_wrong(sheet, changes, {A1: book[A1]}, [])
            self.assert_wrong(sheet, changes, {}, [])

    def test_another_list(self):
        for sheet, changes in self.cases():
            now, book_now, wave = wave_of(sheet, fresh_book(sheet), changes)
            for number, pair in enumerate(wave):
                rest = wave[:number] + wave[number + 1:]
                self.assert_wrong(sheet, changes, book_now, rest)
                for spot_told in range(len(wave) + 1):
                    self.assert_wrong(sheet, changes, book_now, wave[:spot_told] + [pair] + wave[spot_told:])
                    if spot_told < len(wave) and spot_told != number:
                        self.assert_wrong(sheet, changes, book_now, rest[:spot_told] + [pair] + rest[spot_told:])
                others = [OWN, ("read", pair[0]), ("read", A1), ("read", D1), ("read", (99, 0)), ("read",), (), ("own", A1)]
                for cause in others:
                    if cause != pair[1]:
                        told = wave[:number] + [(pair[0], cause)] + wave[number + 1:]
                        self.assert_wrong(sheet, changes, book_now, told)
            listed = [pair[0] for pair in wave]
            for place in list(now) + [(98, 25), (99, 26), (-1, 0)]:
                if place not in listed:
                    for cause in (OWN, ("read", A1), ("read", place)):
                        self.assert_wrong(sheet, changes, book_now, wave + [(place, cause)])
                        self.assert_wrong(sheet, changes, book_now, [(place, cause)] + wave)

    def test_another_book(self):
        for sheet, changes in self.cases():
            now, book_now, wave = wave_of(sheet, fresh_book(sheet), changes)
            for place, entry in book_now.items():
                left = dict(book_now)
                del left[place]
                self.assert_wrong(sheet, changes, left, wave)
                others = [("worth", worth, entry[2]) for worth in (0, 1, None, "a", ("fault", "kind"), (), ("waits",), ("waits", A1))]
                others += [("waits", other, entry[2]) for other in list(now) + [(99, 0)]]
                others += [entry[:2] + (entry[2] + (item,),) for item in (("at", (50, 5)), ("at", (99, 0)), (), 5, "at")]
                others += [entry[:2] + (entry[2][:-1],), entry[:2] + (entry[2][1:],), entry[:2] + ((),)]
                for other in others:
                    if other != entry:
                        self.assert_wrong(sheet, changes, book_now | {place: other}, wave)
            for place in [(98, 25), (99, 0), (0, -1)] + [place for place in now if place not in book_now]:
                self.assert_wrong(sheet, changes, book_now | {place: ("worth", now.get(place), ())}, wave)

    def test_the_old_book_behind_changes_that_turn_it(self):
        for sheet, changes in self.cases():
            book = fresh_book(sheet)
            now, book_now, wave = wave_of(sheet, book, changes)
            if book != book_now:
                self.assert_wrong(sheet, changes, book, wave)
                self.assert_wrong(sheet, changes, book, [])

    def test_the_order_by_rank_then_by_place_then_the_waiting(self):
        told = {"a1": "= b1", "b1": "= c1", "c1": "= z9", "d1": "= z9", "b2": "= b2 + z9", "a2": "= z9 + a2", "a3": "= z9 + b1"}
        sheet, changes = sheet_by(told), {spot("z9"): 1}
        book_now = fresh_book(with_cells(sheet, changes))
        # b2 waits for itself ahead of reading z9, so it is not touched; a2 read z9 first.
        wave = [("c1", "z9"), ("d1", "z9"), ("b1", "c1"), ("a1", "b1"), ("a3", "z9"), ("a2", "z9")]
        wave = [(spot(place), ("read", spot(cause))) for place, cause in wave]
        self.assertIs(self.is_right(sheet, changes, book_now, wave), True)
        self.assert_wrong(sheet, changes, book_now, sorted(wave))
        self.assert_wrong(sheet, changes, book_now, [wave[-1]] + wave[:-1])

    def test_cells_that_tell_one_anothers_worths_round(self):
        # Each look tells its entry, and all that stands otherwise has its cause: the ring alone is wrong.
        sheet = {A1: at(0, 1), B1: 5, C1: at(0, 0)}
        changes = {B1: at(0, 0)}
        book_now = {A1: ("worth", 5, (("at", B1),)), B1: ("worth", 5, (("at", A1),)), C1: ("worth", 5, (("at", A1),))}
        self.assert_wrong(sheet, changes, book_now, [(B1, OWN)])
        itself = {A1: ("worth", 5, (("at", A1),))}
        for wave in ([(A1, OWN)], []):
            self.assert_wrong({A1: 5}, {A1: at(0, 0)}, itself, wave)
        self.assertIs(self.is_right({A1: 5}, {A1: at(0, 0)}, {A1: ("waits", A1, (("at", A1),))}, [(A1, OWN)]), True)

    def test_waiting_for_what_does_not_wait(self):
        sheet = {A1: at(0, 1), B1: 5}
        self.assert_wrong(sheet, {B1: 6}, {A1: ("waits", B1, (("at", B1),))}, [(A1, ("read", B1))])
        self.assert_wrong(sheet, {B1: ("num", 6)}, {A1: ("waits", B1, (("at", B1),)), B1: ("worth", 6, ())},
                          [(B1, OWN), (A1, ("read", B1))])

    def test_a_row_of_200_cells(self):
        order, sheet = row_of(200, -1)
        changes = {order[0]: 7}
        now, book_now, wave = wave_of(sheet, fresh_book(sheet), changes)
        self.assertEqual(len(wave), 199)
        self.assertIs(self.is_right(sheet, changes, book_now, wave), True)
        self.assert_wrong(sheet, changes, book_now, wave[::-1])

    def test_refusals(self):
        sheet = sheet_by({"a1": "= b1", "b1": 5})
        book = fresh_book(sheet)
        full = {(row, column): 1 for row in range(20) for column in range(10)}
        cases = [("BadPlace", {(99, 0): 1}), ("BadPlace", {(0, -1): None}), ("BadContent", {A1: 10 ** 60 + 1}),
                 ("BadContent", {A1: "a" * 41}), ("BadFormula", {A1: ("at", (99, 0), (0, 0))}), ("BadFormula", {A1: ()}),
                 ("Full", full | {(50, 0): 1})]
        for name, changes in cases:
            for told in (book, {}, {(7, 7): ("worth", (), ((),))}):
                handed = (sheet, book, changes, told, [])
                before = copy.deepcopy(handed)
                self.refused(name, right_wave, *handed)
                self.assertEqual(handed, before)


if __name__ == "__main__":
    unittest.main()
