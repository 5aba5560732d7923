"""Promises 13.3 and 13.4: keepers, deeds taken back and done again."""

import copy
import random
import unittest

from helper import RefusalChecks, at, num, row_of, sheet_by, some_deed, some_sheet, spot
from onelook.areas import read_area
from onelook.carried import readied
from onelook.causes import right_wave
from onelook.deeds import deed_wave
from onelook.errors import SheetError
from onelook.fresh import fresh_book
from onelook.judge import right_book
from onelook.keeper import Keeper
from onelook.sheets import made_sheet
from onelook.waves import wave_of

A1, B1, C1, D1 = [(0, column) for column in range(4)]
OWN = ("own",)
SHEET = {"a1": 5, "b1": "= a1 + 1", "c1": "= b1 * 2", "b2": "x"}
DEEDS = [
    ("put", A1, 7), ("clear", B1), ("copy", read_area("a1:c1"), spot("a2")), ("shift", "rows in", 1, 3),
    ("bundle", (("put", D1, at(0, 0)), ("clear", spot("b2")))), ("shift", "columns out", 0, 1), ("bundle", ()),
    ("put", C1, at(0, 2)), ("shift", "rows out", 0, 2),
]


def changes_between(sheet, sheet_now):
    return {place: sheet_now.get(place) for place in list(sheet) + list(sheet_now)}


class Keepers(unittest.TestCase, RefusalChecks):
    def assert_now(self, keeper, sheet, deeds):
        self.assertEqual(keeper.sheet_now(), sheet)
        self.assertEqual(keeper.book_now(), fresh_book(sheet))
        self.assertIs(right_book(sheet, keeper.book_now()), True)
        self.assertEqual(keeper.deeds(), deeds)

    def test_at_first(self):
        self.assert_now(Keeper({}), {}, [])
        self.assert_now(Keeper(sheet_by(SHEET)), sheet_by(SHEET), [])
        _, row = row_of(200, 1)
        self.assert_now(Keeper(row), row, [])

    def test_the_sheet_is_kept_as_a_copy(self):
        sheet = sheet_by(SHEET)
        keeper = Keeper(sheet)
        sheet.clear()
        self.assert_now(keeper, sheet_by(SHEET), [])
        keeper.do(("put", A1, 7))
        self.assertEqual(sheet, {})
        keeper.back()
        self.assert_now(keeper, sheet_by(SHEET), [])

    def test_waves_of_deeds(self):
        keeper = Keeper(sheet_by(SHEET))
        self.assertEqual(keeper.do(("put", A1, 7)), [(B1, ("read", A1)), (C1, ("read", B1))])
        self.assertEqual(keeper.do(("put", A1, 7)), [])
        self.assertEqual(keeper.do(("put", B1, num(8))), [(B1, OWN)])
        self.assertEqual(keeper.do(("clear", A1)), [])
        self.assertEqual(keeper.do(("shift", "rows in", 0, 1)), [])
        # By the places ahead of the shift.
        self.assertEqual(keeper.do(("shift", "columns out", 1, 1)), [((1, 2), OWN)])
        self.assertEqual(len(keeper.deeds()), 6)

    def test_waves_taken_back_and_done_again(self):
        keeper = Keeper(sheet_by(SHEET))
        keeper.do(("put", B1, num(8)))
        self.assertEqual(keeper.back(), [(B1, OWN), (C1, ("read", B1))])
        self.assertEqual(keeper.again(), [(B1, OWN), (C1, ("read", B1))])
        keeper.do(("clear", B1))
        # A cleared formula is none that is touched; taken back it is its own cause.
        self.assertEqual(keeper.back(), [(B1, OWN), (C1, ("read", B1))])
        self.assertEqual(keeper.again(), [(C1, ("read", B1))])
        keeper.do(("bundle", ()))
        self.assertEqual([keeper.back(), keeper.again()], [[], []])
        keeper.do(("shift", "columns out", 0, 2))
        self.assertEqual([keeper.back(), keeper.again(), keeper.back()], [[], [], []])
        self.assertEqual(len(keeper.deeds()), 3)

    def test_each_kind_back_and_again(self):
        keeper = Keeper(sheet_by(SHEET))
        sheets = [keeper.sheet_now()]
        for number, deed in enumerate(DEEDS):
            due = deed_wave(sheets[-1], fresh_book(sheets[-1]), deed)
            self.assertEqual(keeper.do(deed), due[2])
            sheets.append(due[0])
            self.assert_now(keeper, due[0], DEEDS[:number + 1])
        for _ in range(2):
            for number in range(len(DEEDS) - 1, -1, -1):
                self.assert_step(keeper.back(), DEEDS[number], sheets[number + 1], sheets[number])
                self.assert_now(keeper, sheets[number], DEEDS[:number])
            self.refused("NoDeed", keeper.back)
            for number, deed in enumerate(DEEDS):
                self.assert_step(keeper.again(), deed, sheets[number], sheets[number + 1])
                self.assert_now(keeper, sheets[number + 1], DEEDS[:number + 1])
            self.refused("NoDeed", keeper.again)

    def assert_step(self, wave, deed, sheet, sheet_now):
        if deed[0] == "shift":
            self.assertEqual(wave, [])
            return
        book, changes = fresh_book(sheet), changes_between(sheet, sheet_now)
        self.assertEqual(wave, wave_of(sheet, book, changes)[2])
        self.assertIs(right_wave(sheet, book, changes, fresh_book(sheet_now), wave), True)

    def test_a_deed_done_behind_one_taken_back(self):
        keeper = Keeper({})
        for number in range(4):
            keeper.do(("put", (0, number), number))
        keeper.back()
        keeper.back()
        keeper.do(("put", A1, 9))
        self.assert_now(keeper, {A1: 9, B1: 1}, [("put", A1, 0), ("put", B1, 1), ("put", A1, 9)])
        # Nothing stands as taken back any more.
        self.refused("NoDeed", keeper.again)
        keeper.back()
        self.assert_now(keeper, {A1: 0, B1: 1}, [("put", A1, 0), ("put", B1, 1)])
        keeper.again()
        self.assert_now(keeper, {A1: 9, B1: 1}, [("put", A1, 0), ("put", B1, 1), ("put", A1, 9)])
        self.refused("NoDeed", keeper.again)

    def test_nothing_to_take_back_or_to_do_again(self):
        keeper = Keeper(sheet_by(SHEET))
        self.refused("NoDeed", keeper.back)
        self.refused("NoDeed", keeper.again)
        self.assert_now(keeper, sheet_by(SHEET), [])
        keeper.do(("put", A1, 7))
        self.refused("NoDeed", keeper.again)
        keeper.back()
        self.refused("NoDeed", keeper.back)
        keeper.again()
        self.assert_now(keeper, sheet_by({**SHEET, "a1": 7}), [("put", A1, 7)])

    def test_a_refused_deed_changes_nothing(self):
        full = made_sheet([((number // 20, number % 20), number) for number in range(200)])
        keeper = Keeper(full)
        keeper.do(("put", A1, 9))
        keeper.do(("put", A1, 10))
        keeper.back()
        now, again = {**full, A1: 9}, {**full, A1: 10}
        for deed, name in [
                (("puts", A1, 5), "NoDeed"), (("put", (-1, 0), 5), "BadPlace"), (("put", A1, "%"), "BadContent"),
                (("put", A1, ("x",)), "BadFormula"), (("copy", (1, 0, 0, 0), A1), "BadArea"),
                (("shift", "rows in", 0, 0), "BadCount"), (("shift", "rows in", 0, 90), "NoRoom"),
                (("copy", (0, 0, 1, 1), (98, 0)), "NoRoom"), (("put", (50, 0), 5), "Full"),
                (("bundle", (("put", A1, 5), ("put", (50, 0), 5))), "Full"), (("bundle", (("clear", A1), ("clear", (99, 0)))), "BadPlace")]:
            self.refused(name, keeper.do, deed)
            self.assert_now(keeper, now, [("put", A1, 9)])
        # What was taken back still stands as taken back.
        keeper.again()
        self.assert_now(keeper, again, [("put", A1, 9), ("put", A1, 10)])

    def test_what_is_told_is_the_askers_own(self):
        keeper = Keeper(sheet_by(SHEET))
        keeper.do(("put", A1, 7))
        keeper.do(("put", A1, 8))
        waves = [keeper.back(), keeper.again(), keeper.back()]
        told = [keeper.sheet_now(), keeper.book_now(), keeper.deeds()]
        kept = copy.deepcopy(told)
        for thing in told:
            thing.clear()
        for wave in waves:
            wave.clear()
        self.assertEqual([keeper.sheet_now(), keeper.book_now(), keeper.deeds()], kept)
        told = [keeper.sheet_now(), keeper.book_now(), keeper.deeds()]
        keeper.again()
        keeper.do(("clear", B1))
        self.assertEqual(told, kept)
        self.assertEqual(keeper.back(), [(B1, OWN), (C1, ("read", B1))])

    def test_two_keepers_of_one_sheet(self):
        sheet = sheet_by(SHEET)
        one, other = Keeper(sheet), Keeper(sheet)
        one.do(("put", A1, 7))
        self.assert_now(other, sheet_by(SHEET), [])
        self.refused("NoDeed", other.back)
        self.assertEqual(sheet, sheet_by(SHEET))

    def test_by_chance(self):
        chance = random.Random(161)
        met = {}
        for _ in range(40):
            sheet = some_sheet(chance)
            keeper = Keeper(sheet)
            # The sheets behind each deed, the deeds that stand and those taken back, kept apart.
            stood, gone = [(None, sheet)], []
            for _ in range(25):
                word = chance.choice(["do", "do", "do", "back", "again"])
                met[word] = met.get(word, 0) + self.one_step(keeper, chance, word, stood, gone)
                self.assert_now(keeper, stood[-1][1], [pair[0] for pair in stood[1:]])
        self.assertTrue(all(met[word] > 30 for word in ["do", "back", "again"]), met)

    def one_step(self, keeper, chance, word, stood, gone):
        sheet = stood[-1][1]
        if word == "back":
            if len(stood) == 1:
                self.refused("NoDeed", keeper.back)
                return 0
            gone.append(stood.pop())
            self.assert_step(keeper.back(), gone[-1][0], sheet, stood[-1][1])
            return 1
        if word == "again":
            if not gone:
                self.refused("NoDeed", keeper.again)
                return 0
            stood.append(gone.pop())
            self.assert_step(keeper.again(), stood[-1][0], sheet, stood[-1][1])
            return 1
        deed = some_deed(chance)
        try:
            wave = keeper.do(deed)
        except SheetError:
            return 0
        gone.clear()
        stood.append((deed, deed_wave(sheet, fresh_book(sheet), deed)[0]))
        if deed[0] == "shift":
            self.assertEqual(wave, wave_of(sheet, fresh_book(sheet), readied(sheet, deed[1:]))[2])
        else:
            self.assert_step(wave, deed, sheet, stood[-1][1])
        return 1


if __name__ == "__main__":
    unittest.main()
