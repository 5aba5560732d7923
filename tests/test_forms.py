"""Promises 9.2 and 9.4: formulas seen from their cells, formulas alike, and heaps."""

import copy
import random
import unittest

from helper import LOOSE, num, sheet_by, some_formula, some_sheet, spot, spots
from onelook.copies import copied
from onelook.formulatext import formula_text, read_formula
from onelook.forms import alike, form_of, formula_by, heaps_of
from onelook.sheets import formula_places


def form_at(text, name):
    return form_of(read_formula(text), spot(name))


def words_in(formula):
    """The words of its pieces in order: the same ones where nothing more is lost."""
    words = [formula[0]]
    for entry in formula[1:]:
        if isinstance(entry, tuple) and isinstance(entry[0], str):
            words += words_in(entry)
    return words


def alike_by(one, here, other, there):
    return alike(read_formula(one), spot(here), read_formula(other), spot(there))


class Forms(unittest.TestCase):
    def test_cells(self):
        self.assertEqual(form_at("c5", "b2"), ("at", (3, 1), (0, 0)))
        self.assertEqual(form_at("a1", "c5"), ("at", (-4, -2), (0, 0)))
        self.assertEqual(form_at("$c5", "b2"), ("at", (3, 2), (0, 1)))
        self.assertEqual(form_at("c$5", "b2"), ("at", (4, 1), (1, 0)))
        self.assertEqual(form_at("$c$5", "b2"), ("at", (4, 2), (1, 1)))
        self.assertEqual(form_at("z99", "a1"), ("at", (98, 25), (0, 0)))
        self.assertEqual(form_at("a1", "z99"), ("at", (-98, -25), (0, 0)))

    def test_areas(self):
        for word in ("sum", "count", "least", "greatest"):
            self.assertEqual(form_at(f"{word}(b2:d5)", "c3"), (word, (-1, -1, 2, 1), LOOSE))
            self.assertEqual(form_at(f"{word}($b$2:$d$5)", "c3"), (word, (1, 1, 4, 3), (1, 1, 1, 1)))
            self.assertEqual(form_at(f"{word}(b$2:$d5)", "c3"), (word, (1, -1, 2, 3), (1, 0, 0, 1)))
        self.assertEqual(form_at("find(c4, b2:$d5)", "c3"), ("find", ("at", (1, 0), (0, 0)), (-1, -1, 2, 3), (0, 0, 0, 1)))

    def test_what_names_nothing_is_as_it_is(self):
        for text in ("5", '"a1"', "lost", "-5", "not(1)", "1 + 2", "rest(7, 2)", "if(1, 2, 3)", "else(lost, 1)"):
            self.assertEqual(form_at(text, "k9"), read_formula(text))

    def test_within_parts(self):
        self.assertEqual(form_at("if(b1, -c1, sum(a1:a2) & $a$9)", "b2"), (
            "if", ("at", (-1, 0), (0, 0)), ("minus", ("at", (-1, 1), (0, 0))),
            ("&", ("sum", (-1, -1, 0, -1), LOOSE), ("at", (8, 0), (1, 1)))))

    def test_the_formula_that_has_it(self):
        form = form_at("b1 + $a$1 + sum(b$1:b2)", "b2")
        for name, due in (("b2", "b1 + $a$1 + sum(b$1:b2)"), ("c9", "c8 + $a$1 + sum(c$1:c9)"), ("a2", "a1 + $a$1 + sum(a$1:a2)"),
                          ("b1", "lost + $a$1 + sum(b$1:b1)"), ("z99", "z98 + $a$1 + sum(z$1:z99)")):
            self.assertEqual(formula_text(formula_by(form, spot(name))), due)

    def test_what_would_be_none_is_lost(self):
        self.assertEqual(formula_by(("at", (-1, 0), (0, 0)), (0, 0)), ("lost",))
        self.assertEqual(formula_by(("at", (1, 0), (0, 0)), (98, 0)), ("lost",))
        self.assertEqual(formula_by(("at", (0, 1), (0, 0)), (0, 25)), ("lost",))
        self.assertEqual(formula_by(("at", (0, -1), (0, 0)), (0, 0)), ("lost",))
        self.assertEqual(formula_by(("at", (5, -1), (1, 0)), (0, 1)), ("at", (5, 0), (1, 0)))
        self.assertEqual(formula_by(("sum", (0, 0, 1, 1), LOOSE), (98, 0)), ("lost",))
        # Corners the wrong way round, and more than 300 places.
        self.assertEqual(formula_by(("sum", (5, 0, 0, 0), (1, 0, 0, 0)), (4, 0)), ("lost",))
        self.assertEqual(formula_by(("sum", (5, 0, 0, 0), (1, 0, 0, 0)), (5, 0)), ("sum", (5, 0, 5, 0), (1, 0, 0, 0)))
        self.assertEqual(formula_by(("sum", (0, 0, 0, 9), (1, 1, 0, 1)), (29, 0)), ("sum", (0, 0, 29, 9), (1, 1, 0, 1)))
        self.assertEqual(formula_by(("sum", (0, 0, 0, 9), (1, 1, 0, 1)), (30, 0)), ("lost",))
        # A find with its f.
        self.assertEqual(formula_by(("minus", ("find", num(1), (-1, 0, 0, 1), LOOSE)), (0, 0)), ("minus", ("lost",)))

    def test_a_form_and_back_by_chance(self):
        chance = random.Random(71)
        places = ((0, 0), (3, 2), (98, 25), (7, 7), (40, 12))
        for _ in range(500):
            formula, here = some_formula(chance, 5, places), chance.choice(places)
            form = form_of(formula, here)
            self.assertEqual(formula_by(form, here), formula)
            self.assertEqual(form_of(formula, (0, 0)), formula)
            self.assertEqual(formula_by(formula, (0, 0)), formula)
            there = chance.choice(places)
            moved = formula_by(form, there)
            if words_in(moved) == words_in(formula):
                self.assertEqual(form_of(moved, there), form)


class Alike(unittest.TestCase):
    def test_alike(self):
        for one, here, other, there in (
            ("a1", "b1", "a2", "b2"), ("a1", "b1", "y99", "z99"), ("$a1", "b1", "$a5", "k5"), ("a$1", "b1", "b$1", "c9"),
            ("$a$1", "b1", "$a$1", "z99"), ("5", "a1", "5", "z9"), ("lost", "a1", "lost", "b1"), ("sum(a1:b2)", "c1", "sum(b3:c4)", "d3"),
            ("sum($a$1:b2)", "c1", "sum($a$1:c4)", "d3"), ("find(a1, a1:b2)", "c1", "find(b1, b1:c2)", "d1"),
            ("if(a1, b1, $c$1)", "d4", "if(a2, b2, $c$1)", "d5"),
        ):
            self.assertIs(alike_by(one, here, other, there), True, (one, here, other, there))
            self.assertIs(alike_by(other, there, one, here), True)
            self.assertIs(alike_by(one, here, one, here), True)

    def test_not_alike(self):
        for one, here, other, there in (
            ("a1", "b1", "a1", "b2"), ("a1", "b1", "b1", "b1"), ("a1", "b1", "a1", "c1"), ("a1", "b1", "$a1", "b1"), ("a1", "b1", "a$1", "b1"),
            ("$a1", "b1", "a$1", "b1"), ("$a$1", "b1", "$a$2", "b1"), ("$a1", "b1", "$a1", "b2"), ("a$1", "b1", "a$1", "c1"),
            ("5", "a1", "6", "a1"), ("5", "a1", '"5"', "a1"), ("a1 + b1", "c1", "b1 + a1", "c1"), ("a1 + 1", "c1", "a1 - 1", "c1"),
            ("sum(a1:b2)", "c1", "sum(a1:b3)", "c1"), ("sum(a1:b2)", "c1", "count(a1:b2)", "c1"), ("sum(a1:b2)", "c1", "sum(a1:$b2)", "c1"),
            ("sum(a1:b2)", "c1", "sum(a1:b2)", "c2"), ("find(1, a1:b2)", "c1", "find(2, a1:b2)", "c1"), ("lost", "a1", "a1", "a1"),
            # Seen from a1 alone the pinned and the loose number are one; the pin tells them apart.
            ("$b$2", "a1", "b2", "a1"), ("sum($a$1:$b$2)", "a1", "sum(a1:b2)", "a1"),
        ):
            self.assertIs(alike_by(one, here, other, there), False, (one, here, other, there))
            self.assertIs(alike_by(other, there, one, here), False)

    def test_copies_of_copies(self):
        chance = random.Random(72)
        places = ((3, 2), (5, 4), (7, 7), (6, 3))
        kept = 0
        for _ in range(600):
            formula = some_formula(chance, 4, places)
            here, there, on = [(chance.randrange(2, 6), chance.randrange(2, 6)) for _ in range(3)]
            once = copied(formula, here, there)
            if words_in(once) == words_in(formula):
                kept += 1
                self.assertIs(alike(formula, here, once, there), True)
                self.assertEqual(copied(once, there, here), formula)
                self.assertEqual(copied(once, there, on), copied(formula, here, on))
            else:
                self.assertIs(alike(formula, here, once, there), False)
        self.assertGreater(kept, 300)


class Heaps(unittest.TestCase):
    def assert_heaps(self, told, heaps):
        sheet = sheet_by(told)
        before = copy.deepcopy(sheet)
        self.assertEqual(heaps_of(sheet), [spots(heap) for heap in heaps])
        self.assertEqual(sheet, before)

    def test_no_formula(self):
        self.assert_heaps({}, [])
        self.assert_heaps({"a1": 5, "b1": "x"}, [])

    def test_one_of_each(self):
        self.assert_heaps({"a1": "= 1"}, ["a1"])
        self.assert_heaps({"b1": "= a1", "c1": "= a1", "d1": "= $a1", "a1": 5}, ["b1", "c1", "d1"])

    def test_several(self):
        told = {"a1": 1, "b1": "= a1", "b2": "= a2", "b3": "= $a$1", "c3": "= $a$1", "z9": "= y9", "c1": "= 5", "a5": "= 5", "c2": "= a2"}
        self.assert_heaps(told, ["b1 b2 z9", "c1 a5", "c2", "b3 c3"])

    def test_whatever_the_order_of_the_cells(self):
        told = {"z9": "= 5", "a1": "= z1", "b1": "= 5", "a2": "= z2", "y1": "= a1"}
        chance = random.Random(73)
        for _ in range(20):
            cells = list(told.items())
            chance.shuffle(cells)
            self.assert_heaps(dict(cells), ["a1 a2", "b1 z9", "y1"])

    def test_a_sheet_of_one_heap(self):
        sheet = {(row, column): ("+", ("at", (row, column + 1), (0, 0)), num(1)) for row in range(20) for column in range(10)}
        self.assertEqual(heaps_of(sheet), [sorted(sheet)])

    def test_by_chance(self):
        chance = random.Random(74)
        for _ in range(100):
            sheet = some_sheet(chance, deep=1)
            heaps = heaps_of(sheet)
            self.assertEqual(sorted(place for heap in heaps for place in heap), formula_places(sheet))
            self.assertEqual([heap[0] for heap in heaps], sorted(min(heap) for heap in heaps))
            heap_of = {place: number for number, heap in enumerate(heaps) for place in heap}
            for heap in heaps:
                self.assertEqual(heap, sorted(heap))
            for one in heap_of:
                for other in heap_of:
                    self.assertEqual(alike(sheet[one], one, sheet[other], other), heap_of[one] == heap_of[other])

    def test_told_lists_are_the_askers_own(self):
        sheet = sheet_by({"a1": "= 1", "b1": "= 1", "c1": "= 2"})
        heaps = heaps_of(sheet)
        self.assertIs(type(heaps), list)
        for heap in heaps:
            self.assertIs(type(heap), list)
            heap.append(None)
        heaps.clear()
        self.assertEqual(heaps_of(sheet), [spots("a1 b1"), spots("c1")])


if __name__ == "__main__":
    unittest.main()
