"""Promises 13.1 and 13.2: deeds done, what they write and take, and deeds that do not meet."""

import copy
import random
import unittest

from helper import (
    RefusalChecks, at, num, sheet_by, some_changes, some_deed, some_sheet, some_small_deed, spot, spots)
from onelook.areas import read_area
from onelook.carried import readied, shift_wave
from onelook.causes import right_wave
from onelook.copies import block_changes
from onelook.deeds import deed_wave, meet, takes, writes
from onelook.errors import SheetError
from onelook.fresh import fresh_book
from onelook.judge import right_book
from onelook.sheets import made_sheet, with_cells
from onelook.turned import shifted
from onelook.waves import wave_of

GREAT = 10 ** 60
A1, B1, C1, D1 = [(0, column) for column in range(4)]
DEEP = ("bundle",)
for _ in range(5000):
    DEEP = ("bundle", (DEEP,))

# What has no form of a deed.
FORMLESS = [
    (), ("",), (DEEP,), (DEEP, A1), ("puts", A1, 5), ("Put", A1, 5), (5, A1, 5), (("put",), A1, 5), ("do", A1), (A1,), ((),),
    ("put",), ("put", A1), ("put", A1, 5, 5), ("put", 5, A1), ("put", "a1", 5), ("put", (), 5), ("put", (0,), 5),
    ("put", (0, 0, 0), 5), ("put", (0, "0"), 5), ("put", ((0,), 0), 5), ("put", (0, 0, 0, 0), 5),
    ("clear",), ("clear", A1, A1), ("clear", 0, 0), ("clear", "a1"), ("clear", (0,)), ("clear", (0, 0, 0, 0)),
    ("copy",), ("copy", (0, 0, 0, 0)), ("copy", A1, A1), ("copy", A1, (0, 0, 0, 0)), ("copy", (0, 0, 0), A1),
    ("copy", (0, 0, 0, 0, 0), A1), ("copy", (0, 0, 0, "0"), A1), ("copy", (0, 0, 0, 0), 5),
    ("copy", (0, 0, 0, 0), (0,)), ("copy", (0, 0, 0, 0), A1, A1), ("copy", "a1:b2", "c1"),
    ("shift",), ("shift", "rows in", 0), ("shift", "rows in", 0, 1, 1), ("shift", 0, 0, 1), ("shift", "rows in", "0", 1),
    ("shift", "rows in", 0, "1"), ("shift", "rows in", (0,), 1), ("shift", ("rows", "in"), 0, 1), ("shift", ("rows in", 0, 1)),
    ("bundle",), ("bundle", 5), ("bundle", "put"), ("bundle", ("put", A1, 5)), ("bundle", (), ()),
    ("bundle", ("clear", A1), ("clear", A1)), ("bundle", (5,)), ("bundle", ("put",)), ("bundle", ((),)),
    ("bundle", (("shift", "rows in", 0, 1),)), ("bundle", (("bundle", ()),)), ("bundle", (("clear", A1), ("clear",))),
    ("bundle", (("bundle", (("clear", A1),)), ("clear", A1))), DEEP,
]
# As far as its form goes a deed, but refused, with the refusal's name.
REFUSED = [
    (("put", (-1, 0), 5), "BadPlace"), (("put", (0, 26), GREAT * 10), "BadPlace"), (("put", (GREAT, 0), ("x",)), "BadPlace"),
    (("put", A1, GREAT + 1), "BadContent"), (("put", A1, -GREAT - 1), "BadContent"), (("put", A1, "x" * 41), "BadContent"),
    (("put", A1, "a%"), "BadContent"), (("put", A1, "\""), "BadContent"), (("put", A1, "\n"), "BadContent"),
    (("put", A1, ()), "BadFormula"), (("put", A1, ("num", -1)), "BadFormula"), (("put", A1, ("at", (0, 26), (0, 0))), "BadFormula"),
    (("put", A1, A1), "BadFormula"), (("put", A1, DEEP), "BadFormula"),
    (("clear", (99, 0)), "BadPlace"), (("clear", (0, -1)), "BadPlace"),
    (("copy", (1, 0, 0, 0), A1), "BadArea"), (("copy", (0, 0, 0, 26), A1), "BadArea"), (("copy", (0, 0, 98, 4), A1), "BadArea"),
    # The area goes ahead of the place, as in block_changes.
    (("copy", (1, 0, 0, 0), (-1, 0)), "BadArea"), (("copy", (0, 0, 1, 1), (99, 0)), "BadPlace"),
    (("copy", (0, 0, 1, 1), (0, -1)), "BadPlace"), (("copy", (0, 0, 1, 0), (98, 0)), "NoRoom"),
    (("copy", (0, 0, 0, 1), (0, 25)), "NoRoom"),
    (("shift", "rows", 0, 1), "BadCount"), (("shift", "", 0, 1), "BadCount"), (("shift", "rows in", -1, 1), "BadCount"),
    (("shift", "rows in", 99, 1), "BadCount"), (("shift", "columns out", 0, 0), "BadCount"),
    (("shift", "columns out", 20, 7), "BadCount"), (("shift", "rows out", 0, 100), "BadCount"),
    (("shift", "rows in", 0, 98), "NoRoom"), (("shift", "columns in", 0, 25), "NoRoom"),
]
PLACED = [pair for pair in REFUSED if pair[1] in ("BadPlace", "BadArea", "NoRoom") and pair[0][0] != "shift"]
SHEET = {"a1": 5, "b1": "= a1 + 1", "c1": "= b1 * 2", "b2": "x"}


class DeedWave(unittest.TestCase, RefusalChecks):
    def assert_deed(self, told, deed, told_now):
        """The sheet behind it; its book by reckoning afresh; the wave by how both stand."""
        sheet, sheet_now = sheet_by(told), sheet_by(told_now)
        book = fresh_book(sheet)
        kept = copy.deepcopy((sheet, book))
        found = deed_wave(sheet, book, deed)
        self.assertIsInstance(found, tuple)
        self.assertEqual(found[:2], (sheet_now, fresh_book(sheet_now)))
        changes = {place: sheet_now.get(place) for place in list(sheet) + list(sheet_now)}
        self.assertEqual(found[2], wave_of(sheet, book, changes)[2])
        self.assertIs(right_wave(sheet, book, changes, found[1], found[2]), True)
        self.assertEqual((sheet, book), kept)
        self.assertIsNot(found[0], sheet)
        self.assertIsNot(found[1], book)
        return found[2]

    def test_put(self):
        wave = self.assert_deed(SHEET, ("put", A1, 7), {**SHEET, "a1": 7})
        self.assertEqual(wave, [(B1, ("read", A1)), (C1, ("read", B1))])
        self.assert_deed(SHEET, ("put", spot("z99"), "y"), {**SHEET, "z99": "y"})
        self.assertEqual(self.assert_deed(SHEET, ("put", A1, 5), SHEET), [])
        wave = self.assert_deed(SHEET, ("put", B1, ("at", B1, (0, 0))), {**SHEET, "b1": "= b1"})
        self.assertEqual(wave, [(B1, ("own",)), (C1, ("read", B1))])

    def test_clear(self):
        self.assert_deed(SHEET, ("clear", A1), {"b1": "= a1 + 1", "c1": "= b1 * 2", "b2": "x"})
        self.assertEqual(self.assert_deed(SHEET, ("clear", spot("z9")), SHEET), [])

    def test_copy(self):
        self.assert_deed(SHEET, ("copy", read_area("a1:c1"), spot("a2")),
                         {**SHEET, "a2": 5, "b2": "= a2 + 1", "c2": "= b2 * 2"})
        # Over itself, and with blanks that clear.
        self.assert_deed(SHEET, ("copy", read_area("b1:c2"), A1),
                         {"a1": "= lost + 1", "b1": "= a1 * 2", "c1": "= b1 * 2", "a2": "x"})

    def test_shift(self):
        sheet = sheet_by(SHEET)
        book = fresh_book(sheet)
        for shift in [("rows in", 0, 2), ("rows out", 0, 1), ("columns in", 1, 3), ("columns out", 0, 1), ("rows out", 1, 98)]:
            found = deed_wave(sheet, book, ("shift",) + shift)
            self.assertEqual(found, shift_wave(sheet, book, shift))
            self.assertEqual(found[:2], (shifted(sheet, shift), fresh_book(shifted(sheet, shift))))
            self.assertEqual(found[2], wave_of(sheet, book, readied(sheet, shift))[2])
        self.assertEqual(deed_wave(sheet, book, ("shift", "columns out", 0, 1))[2], [(B1, ("own",)), (C1, ("read", B1))])
        self.assertEqual((sheet, book), (sheet_by(SHEET), fresh_book(sheet_by(SHEET))))

    def test_bundles_of_none_and_of_one(self):
        self.assertEqual(self.assert_deed(SHEET, ("bundle", ()), SHEET), [])
        self.assertEqual(self.assert_deed({}, ("bundle", ()), {}), [])
        sheet = sheet_by(SHEET)
        book = fresh_book(sheet)
        for deed in [("put", A1, 7), ("clear", B1), ("copy", read_area("a1:b2"), spot("c3"))]:
            self.assertEqual(deed_wave(sheet, book, ("bundle", (deed,))), deed_wave(sheet, book, deed))

    def test_what_a_bundle_of_none_tells_is_the_askers_own(self):
        sheet = sheet_by(SHEET)
        book = fresh_book(sheet)
        found = deed_wave(sheet, book, ("bundle", ()))
        found[0].clear()
        found[1].clear()
        found[2].append(1)
        self.assertEqual(deed_wave(sheet, book, ("bundle", ())), (sheet_by(SHEET), fresh_book(sheet), []))

    def test_bundles_of_several(self):
        deed = ("bundle", (("put", A1, 7), ("clear", spot("b2")), ("put", D1, num(3)), ("put", C1, at(0, 3))))
        self.assert_deed(SHEET, deed, {"a1": 7, "b1": "= a1 + 1", "c1": "= d1", "d1": "= 3"})

    def test_a_bundle_that_puts_one_place_twice(self):
        deed = ("bundle", (("put", A1, 7), ("put", A1, 8)))
        self.assert_deed(SHEET, deed, {**SHEET, "a1": 8})
        # Put and put back: nothing is touched, since it is reckoned once, behind the last one.
        deed = ("bundle", (("put", A1, 7), ("put", B1, 0), ("put", A1, 5), ("put", B1, ("+", at(0, 0), num(1)))))
        self.assertEqual(self.assert_deed(SHEET, deed, SHEET), [])

    def test_a_bundle_that_copies_what_it_has_put(self):
        deed = ("bundle", (("put", A1, at(0, 25)), ("copy", (0, 0, 0, 1), spot("a3")), ("clear", B1), ("copy", (0, 0, 0, 1), spot("a4"))))
        self.assert_deed({"b1": 4}, deed, {"a1": "= z1", "a3": "= z3", "b3": 4, "a4": "= z4"})
        deed = ("bundle", (("copy", (0, 0, 0, 0), B1), ("copy", (0, 0, 0, 1), C1)))
        self.assert_deed({"a1": 5}, deed, {"a1": 5, "b1": 5, "c1": 5, "d1": 5})

    def test_full(self):
        sheet = made_sheet([((number // 20, number % 20), number) for number in range(200)])
        book = fresh_book(sheet)
        put, clear = ("put", (50, 0), 1), ("clear", A1)
        self.refused("Full", deed_wave, sheet, book, put)
        self.refused("Full", deed_wave, sheet, book, ("bundle", (put,)))
        self.refused("Full", deed_wave, sheet, book, ("copy", (0, 0, 0, 0), (50, 0)))
        self.refused("Full", deed_wave, sheet, book, ("bundle", (put, ("put", (50, 1), 2), clear)))
        # More than 200 on the way, and not in the end.
        for deed in [("bundle", (put, clear)), ("bundle", (clear, put)),
                     ("bundle", (("copy", (0, 0, 9, 19), (60, 0)), ("copy", (20, 0, 29, 19), A1)))]:
            self.assertEqual(len(deed_wave(sheet, book, deed)[0]), 200)
        # Behind the last one alone: a later refusal goes first.
        for deed, name in REFUSED:
            if deed[0] != "shift":
                self.refused(name, deed_wave, sheet, book, ("bundle", (put, deed)))
        self.assertEqual(len(deed_wave(sheet, book, ("put", A1, 9))[0]), 200)
        self.assertEqual(len(deed_wave(sheet, book, ("shift", "rows in", 0, 1))[0]), 200)

    def test_no_deed(self):
        sheet = sheet_by(SHEET)
        book = fresh_book(sheet)
        for deed in FORMLESS:
            self.refused("NoDeed", deed_wave, sheet, book, deed)
            # The form goes ahead of all else, in bundles too.
            self.refused("NoDeed", deed_wave, sheet, book, ("bundle", (deed,)))
            self.refused("NoDeed", deed_wave, sheet, book, ("bundle", (("clear", (-1, 0)), deed)))
        self.assertEqual((sheet, book), (sheet_by(SHEET), fresh_book(sheet_by(SHEET))))

    def test_refusals(self):
        sheet = sheet_by({**SHEET, "a2": 1})
        book = fresh_book(sheet)
        kept = copy.deepcopy((sheet, book))
        for deed, name in REFUSED:
            self.refused(name, deed_wave, sheet, book, deed)
            if deed[0] != "shift":
                self.refused(name, deed_wave, sheet, book, ("bundle", (deed,)))
                self.refused(name, deed_wave, sheet, book, ("bundle", (("put", A1, 9), deed, ("clear", (-1, 0)), ("put", A1, "%"))))
        self.assertEqual((sheet, book), kept)

    def test_the_first_refused_deed_of_a_bundle(self):
        small = [pair for pair in REFUSED if pair[0][0] != "shift"]
        for deed, name in small:
            for other, _ in small:
                self.refused(name, deed_wave, {}, {}, ("bundle", (("clear", B1), deed, other)))

    def test_by_chance(self):
        chance = random.Random(151)
        kinds = {}
        for _ in range(500):
            sheet = some_sheet(chance)
            book = fresh_book(sheet)
            deed = some_deed(chance)
            kept = copy.deepcopy((sheet, book, deed))
            try:
                sheet_now, book_now, wave = deed_wave(sheet, book, deed)
            except SheetError:
                self.assertEqual((sheet, book, deed), kept)
                continue
            self.assertEqual((sheet, book, deed), kept)
            self.assertEqual(sheet_now, slow_sheet(sheet, deed))
            self.assertEqual(book_now, fresh_book(sheet_now))
            self.assertIs(right_book(sheet_now, book_now), True)
            if deed[0] == "shift":
                behind = wave_of(sheet, book, readied(sheet, deed[1:]))
                self.assertEqual(wave, behind[2])
            else:
                changes = {place: sheet_now.get(place) for place in list(sheet) + list(sheet_now)}
                self.assertIs(right_wave(sheet, book, changes, book_now, wave), True)
            kinds[deed[0]] = kinds.get(deed[0], 0) + 1
        self.assertTrue(all(kinds[word] > 20 for word in ["put", "clear", "copy", "shift", "bundle"]), kinds)


def slow_sheet(sheet, deed):
    """Deed by deed, each by the function that does it."""
    if deed[0] == "put":
        return with_cells(sheet, {deed[1]: deed[2]})
    if deed[0] == "clear":
        return with_cells(sheet, {deed[1]: None})
    if deed[0] == "copy":
        return with_cells(sheet, block_changes(sheet, deed[1], deed[2]))
    if deed[0] == "shift":
        return shifted(sheet, deed[1:])
    for small in deed[1]:
        sheet = slow_sheet(sheet, small)
    return sheet


class Reach(unittest.TestCase, RefusalChecks):
    def assert_reach(self, deed, written, taken):
        self.assertEqual(writes(deed), spots(written))
        self.assertEqual(takes(deed), spots(taken))

    def test_put_and_clear(self):
        self.assert_reach(("put", spot("b3"), 5), "b3", "")
        self.assert_reach(("put", spot("b3"), at(0, 0)), "b3", "")
        self.assert_reach(("clear", spot("z99")), "z99", "")

    def test_copy(self):
        self.assert_reach(("copy", read_area("a1:b2"), spot("d5")), "d5 e5 d6 e6", "a1 b1 a2 b2")
        self.assert_reach(("copy", read_area("a1:b2"), spot("b2")), "b2 c2 b3 c3", "a1 b1 a2 b2")
        self.assert_reach(("copy", read_area("c4:c4"), spot("z99")), "z99", "c4")

    def test_bundles(self):
        self.assert_reach(("bundle", ()), "", "")
        self.assert_reach(("bundle", (("put", spot("c2"), 5), ("clear", spot("b1")), ("put", spot("c2"), 6))), "b1 c2", "")
        self.assert_reach(("bundle", (("copy", read_area("b2:c2"), spot("a1")), ("put", spot("b1"), 5),
                                      ("copy", read_area("c2:c3"), spot("c9")))), "a1 b1 c9 c10", "b2 c2 c3")

    def test_contents_are_not_looked_at(self):
        for content in [GREAT * 10, "x" * 99, "%", (), ("num", -1), DEEP, A1]:
            self.assert_reach(("put", A1, content), "a1", "")
            self.assert_reach(("bundle", (("put", A1, content),)), "a1", "")
            self.assertIs(meet(("put", A1, content), ("put", B1, content)), False)

    def test_no_deed(self):
        good, misplaced = ("clear", A1), ("clear", (-1, 0))
        for deed in FORMLESS + [("shift", "rows in", 0, 1), ("shift", "no way", -1, -1)]:
            self.refused("NoDeed", writes, deed)
            self.refused("NoDeed", takes, deed)
            for other in [good, misplaced, deed]:
                self.refused("NoDeed", meet, deed, other)
                self.refused("NoDeed", meet, other, deed)

    def test_misplaced(self):
        good = ("clear", A1)
        for deed, name in PLACED:
            for told in [deed, ("bundle", (deed,)), ("bundle", (good, deed, ("clear", (-1, 0)), ("copy", (1, 0, 0, 0), A1)))]:
                self.refused(name, writes, told)
                self.refused(name, takes, told)
                self.refused(name, meet, told, good)
                self.refused(name, meet, good, told)
                for other, _ in PLACED:
                    self.refused(name, meet, told, other)

    def test_what_is_told_is_the_askers_own(self):
        deed = ("copy", read_area("a1:b2"), spot("d5"))
        writes(deed).clear()
        takes(deed).clear()
        self.assert_reach(deed, "d5 e5 d6 e6", "a1 b1 a2 b2")

    def test_a_deed_turns_only_what_it_writes(self):
        chance = random.Random(152)
        for _ in range(300):
            sheet = some_sheet(chance)
            deed = some_deed(chance)
            if deed[0] == "shift":
                continue
            sheet_now = deed_wave(sheet, fresh_book(sheet), deed)[0]
            written, taken = writes(deed), takes(deed)
            self.assertEqual((written, taken), (sorted(set(written)), sorted(set(taken))))
            for place in set(sheet) | set(sheet_now):
                if sheet.get(place) != sheet_now.get(place):
                    self.assertIn(place, written)
            # Elsewhere than where it takes, the sheet may be any: what it writes is the same.
            others = {place: content for place, content in some_changes(chance, sheet).items() if place not in taken}
            there = with_cells(sheet, others)
            there_now = deed_wave(there, fresh_book(there), deed)[0]
            for place in written:
                self.assertEqual(there_now.get(place), sheet_now.get(place))


class Meet(unittest.TestCase):
    def assert_meet(self, one, other, due):
        self.assertIs(meet(one, other), due)
        self.assertIs(meet(other, one), due)
        self.assertIs(meet(("bundle", (("put", (90, 20), 1), one)), other), due)
        self.assertIs(meet(one, ("bundle", (other, ("put", (90, 21), 1)))), due)

    def test_puts_and_clears(self):
        self.assert_meet(("put", A1, 5), ("put", A1, 5), True)
        self.assert_meet(("put", A1, 5), ("clear", A1), True)
        self.assert_meet(("put", A1, 5), ("clear", B1), False)
        # What a formula reads is not taken by the deed.
        self.assert_meet(("put", A1, at(0, 1)), ("put", B1, at(0, 0)), False)

    def test_copies(self):
        block = ("copy", read_area("a1:b2"), spot("d5"))
        for name in ["a1", "b2", "d5", "e6"]:
            self.assert_meet(block, ("put", spot(name), 5), True)
        for name in ["c1", "c2", "a3", "d4", "f5", "d7"]:
            self.assert_meet(block, ("clear", spot(name)), False)
        # Two that take the same and write apart do not meet.
        self.assert_meet(block, ("copy", read_area("a1:b2"), spot("g5")), False)
        self.assert_meet(block, ("copy", read_area("a1:b2"), spot("e6")), True)
        self.assert_meet(block, ("copy", read_area("e6:f6"), spot("x1")), True)
        self.assert_meet(block, ("copy", read_area("x1:x2"), spot("b2")), True)

    def test_bundles(self):
        self.assertIs(meet(("bundle", ()), ("bundle", ())), False)
        self.assertIs(meet(("bundle", ()), ("put", A1, 5)), False)
        self.assertIs(meet(("put", A1, 5), ("bundle", ())), False)
        # What one takes of what it writes itself is no meeting by itself.
        one = ("bundle", (("put", A1, 5), ("copy", (0, 0, 0, 0), B1)))
        self.assertIs(meet(one, ("put", C1, 5)), False)
        self.assertIs(meet(one, ("copy", (0, 1, 0, 1), D1)), True)

    def test_deeds_that_do_not_meet(self):
        chance = random.Random(153)
        apart = 0
        for _ in range(600):
            sheet = some_sheet(chance)
            book = fresh_book(sheet)
            one, other = [some_small_deed(chance) if chance.randrange(3) else
                          ("bundle", tuple(some_small_deed(chance) for _ in range(chance.randrange(3)))) for _ in range(2)]
            told = meet(one, other)
            written, beside = set(writes(one)), set(writes(other))
            self.assertIs(told, bool(written & beside or written & set(takes(other)) or beside & set(takes(one))))
            self.assertIs(meet(other, one), told)
            if not told:
                first = deed_wave(sheet, book, one)
                second = deed_wave(sheet, book, other)
                self.assertEqual(deed_wave(first[0], first[1], other)[:2], deed_wave(second[0], second[1], one)[:2])
                apart += 1
        self.assertGreater(apart, 100)


if __name__ == "__main__":
    unittest.main()
