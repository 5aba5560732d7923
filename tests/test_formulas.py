"""Promises 2.1 and 2.4: what is a formula, its pieces and depth, and what it names."""

import unittest

from helper import FREE, LOOSE, RefusalChecks, at, nested, num, spread
from onelook.formulas import depth_of, made_formula, named_in, piece_many

OPS = ("+", "-", "*", "/", "&", "<", "=")
GATHERS = ("sum", "count", "least", "greatest")
AREA = (1, 1, 4, 3)
ONE = num(1)

# A formula, its pieces, its depth.
KINDS = [
    (num(0), 1, 1), (num(10 ** 60), 1, 1), (("text", ""), 1, 1), (("text", "it's ~ok!"), 1, 1),
    (("lost",), 1, 1), (at(0, 0), 1, 1), (at(98, 25, (1, 1)), 1, 1), (at(3, 4, (0, 1)), 1, 1),
    (("minus", ONE), 2, 2), (("not", ONE), 2, 2), (("rest", ONE, at(1, 1)), 3, 2),
    (("if", ONE, num(2), num(3)), 4, 2), (("else", ("lost",), ONE), 3, 2),
    (("find", ONE, AREA, (1, 0, 1, 0)), 2, 2), (("find", ("minus", ONE), AREA, LOOSE), 3, 3),
    (("if", ONE, ("+", ONE, ("not", ONE)), num(3)), 7, 4), (("+", ("+", ONE, ONE), ("+", ONE, ONE)), 7, 3),
]
KINDS += [((op, ONE, at(2, 2)), 3, 2) for op in OPS]
KINDS += [((word, AREA, pins), 1, 1) for word in GATHERS for pins in (LOOSE, (1, 1, 1, 1), (0, 1, 1, 0))]

# Tuples that are no formulas, though near to some.
NONE = [
    (), ("",), ("num",), ("text",), ("at",), ("sum",), ("find",), ("if",), ("nothing",), ("Num", 1),
    ("nums", 1), (" num", 1), ("add", ONE, ONE), (">", ONE, ONE), ("^", ONE, ONE), ("neg", ONE),
    ("num", 1, 1), ("num", -1), ("num", 10 ** 60 + 1), ("num", "1"), ("num", ()), ("num", (1,)), ("num", ONE),
    ("text", 1), ("text", ()), ("text", ("text", "a")), ("text", "a", "b"), ("text", "a" * 41),
    ("text", 'a"'), ("lost", 0), ("lost", ()), ("lost", ("lost",)), ("lost", ""),
    (1,), (1, 2), (1, ONE, ONE), (("num", 1),), (("num",), 1), ((), ONE), ((),),
    ("at", (0, 0)), ("at", FREE, FREE, FREE), ("at", (0, 0, 0), FREE), ("at", (0,), FREE), ("at", (), FREE),
    ("at", 0, FREE), ("at", "a1", FREE), ("at", ("a", 1), FREE), ("at", ((0,), 0), FREE),
    ("at", (99, 0), FREE), ("at", (0, 26), FREE), ("at", (-1, 0), FREE), ("at", (0, -1), FREE),
    ("at", (10 ** 59, 0), FREE), ("at", (0, 0), (0, 2)), ("at", (0, 0), (-1, 0)), ("at", (0, 0), (0,)),
    ("at", (0, 0), (0, 0, 0)), ("at", (0, 0), 0), ("at", (0, 0), "00"), ("at", (0, 0), ("0", "0")),
    ("at", (0, 0), ((0,), 0)), ("at", (0, 0), ()), ("at", AREA, LOOSE), ("at", (0, 0), LOOSE),
    ("minus",), ("minus", 1), ("minus", "a"), ("minus", ()), ("minus", ONE, ONE), ("minus", (0, 0)),
    ("not",), ("not", 0), ("not", ONE, ONE), ("not", "not"),
    ("rest", ONE), ("rest", ONE, ONE, ONE), ("rest", 1, 2), ("rest", ONE, 2), ("rest",),
    ("if", ONE), ("if", ONE, ONE), ("if", ONE, ONE, ONE, ONE), ("if", 1, ONE, ONE), ("if", ONE, 1, ONE),
    ("if", ONE, ONE, 1), ("if", ONE, ONE, "lost"), ("else", ONE), ("else", ONE, ONE, ONE), ("else", ONE, 0),
    ("find", ONE, AREA), ("find", AREA, LOOSE), ("find", ONE, AREA, LOOSE, LOOSE), ("find", 1, AREA, LOOSE),
    ("find", AREA, ONE, LOOSE), ("find", ONE, (0, 0), LOOSE), ("find", ONE, AREA, (0, 0)),
    ("find", ONE, AREA, (0, 0, 0, 2)), ("find", ONE, (0, 0, 42, 6), LOOSE), ("find", ONE, "b2:d5", LOOSE),
]
NONE += [(op,) for op in OPS] + [(op, ONE) for op in OPS] + [(op, ONE, ONE, ONE) for op in OPS]
NONE += [(op, 1, ONE) for op in OPS] + [(op, ONE, "a") for op in OPS] + [(op, ONE, ()) for op in OPS]
for gather in GATHERS:
    NONE += [
        (gather, AREA), (gather, AREA, LOOSE, LOOSE), (gather, AREA, (0, 0, 0)), (gather, AREA, (0, 0, 0, 0, 0)),
        (gather, AREA, (0, 0, 0, 2)), (gather, AREA, (-1, 0, 0, 0)), (gather, AREA, 0), (gather, AREA, "0000"),
        (gather, AREA, ("0", 0, 0, 0)), (gather, AREA, FREE), (gather, (0, 0, 42, 6), LOOSE),
        (gather, (0, 0, 98, 25), LOOSE), (gather, (1, 0, 0, 0), LOOSE), (gather, (0, 1, 0, 0), LOOSE),
        (gather, (0, 0, 99, 0), LOOSE), (gather, (0, -1, 0, 0), LOOSE), (gather, (0, 0), LOOSE),
        (gather, (0, 0, 0), LOOSE), (gather, (0, 0, 0, 0, 0), LOOSE), (gather, (0, 0, 0, "0"), LOOSE),
        (gather, (0, 0, 0, (0,)), LOOSE), (gather, 5, LOOSE), (gather, "b2:d5", LOOSE), (gather, ONE),
        (gather, ONE, AREA, LOOSE), (gather,), (gather, (), LOOSE), (gather, AREA, ()),
    ]


def wrapped(thing):
    """The thing as a part, in each way in which a formula may hold one, and deeper."""
    sums = ("sum", AREA, LOOSE)
    ways = [("minus", thing), ("not", thing), ("rest", thing, ONE), ("rest", ONE, thing), ("else", thing, ONE),
            ("else", ONE, thing), ("if", thing, ONE, ONE), ("if", ONE, thing, ONE), ("if", ONE, sums, thing),
            ("find", thing, AREA, LOOSE)]
    ways += [(op, thing, ONE) for op in OPS] + [(op, ONE, thing) for op in OPS]
    return ways + [("not", ("if", ONE, ("+", sums, ("minus", way)), ONE)) for way in ways]


class WhatIsAFormula(RefusalChecks, unittest.TestCase):
    def test_each_kind_with_its_pieces_and_its_depth(self):
        for formula, pieces, depth in KINDS:
            self.assertIs(made_formula(formula), formula)
            self.assertEqual(piece_many(formula), pieces, formula)
            self.assertEqual(depth_of(formula), depth, formula)

    def test_each_kind_within_each(self):
        for formula, pieces, depth in KINDS:
            for way in wrapped(formula):
                self.assertIs(made_formula(way), way)
                self.assertGreater(piece_many(way), pieces)
                self.assertGreater(depth_of(way), depth)

    def test_tuples_that_are_none(self):
        for thing in NONE:
            self.refused("BadFormula", made_formula, thing)

    def test_tuples_that_are_none_within_formulas(self):
        for thing in NONE:
            for way in wrapped(thing):
                self.refused("BadFormula", made_formula, way)

    def test_true_and_false_are_no_numbers(self):
        for thing in (("num", True), ("at", (False, 0), FREE), ("at", (0, 0), (True, 0)), ("num", None)):
            self.refused("BadFormula", made_formula, thing)


class Bounds(RefusalChecks, unittest.TestCase):
    def test_numbers(self):
        for number in (0, 1, 10 ** 60 - 1, 10 ** 60):
            self.assertEqual(made_formula(num(number)), num(number))
        for number in (-1, -10 ** 60, 10 ** 60 + 1, 10 ** 61):
            self.refused("BadFormula", made_formula, num(number))

    def test_texts_by_length(self):
        for many in (0, 1, 39, 40):
            self.assertEqual(made_formula(("text", "~" * many)), ("text", "~" * many))
        for many in (41, 42, 4000):
            self.refused("BadFormula", made_formula, ("text", "~" * many))

    def test_texts_by_sign(self):
        for number in list(range(0, 300)) + [8364, 128512]:
            formula = ("text", "a" + chr(number))
            if 32 <= number <= 126 and chr(number) not in '"%':
                self.assertIs(made_formula(formula), formula)
            else:
                self.refused("BadFormula", made_formula, formula)
                self.refused("BadFormula", made_formula, ("&", formula, ONE))

    def test_pieces(self):
        for pieces in range(1, 61):
            formula = spread(pieces)
            self.assertIs(made_formula(formula), formula)
            self.assertEqual(piece_many(formula), pieces)
        for pieces in (61, 62, 63, 100):
            self.assertLess(depth_of(spread(pieces)), 12)
            self.assertEqual(piece_many(spread(pieces)), pieces)
            self.refused("BadFormula", made_formula, spread(pieces))

    def test_depth(self):
        for depth in range(1, 13):
            for formula in (nested("minus", depth), ("else", ONE, nested("not", depth - 1))):
                if depth > 1:
                    self.assertIs(made_formula(formula), formula)
                    self.assertEqual(depth_of(formula), depth)
        for depth in (13, 14, 20):
            self.assertEqual(depth_of(nested("minus", depth)), depth)
            self.refused("BadFormula", made_formula, nested("minus", depth))
            self.refused("BadFormula", made_formula, ("else", ONE, nested("not", depth - 1)))

    def test_far_too_deep_or_too_many(self):
        self.refused("BadFormula", made_formula, nested("minus", 100000))
        doubled = ONE
        for _ in range(1000):
            doubled = ("if", doubled, doubled, doubled)
        self.refused("BadFormula", made_formula, doubled)
        deep = ()
        for _ in range(100000):
            deep = (deep,)
        for thing in (deep, (deep, ONE, ONE), ("num", deep), ("text", deep), ("at", deep, FREE),
                      ("at", (0, 0), deep), ("sum", AREA, deep), ("at", (deep, 0), FREE)):
            self.refused("BadFormula", made_formula, thing)

    def test_areas(self):
        for word in GATHERS:
            formula = (word, (0, 0, 11, 24), LOOSE)
            self.assertIs(made_formula(formula), formula)
            self.refused("BadFormula", made_formula, (word, (0, 0, 42, 6), LOOSE))
        self.assertEqual(made_formula(("find", ONE, (10, 3, 39, 12), LOOSE))[2], (10, 3, 39, 12))
        self.refused("BadFormula", made_formula, ("find", ONE, (0, 0, 42, 6), LOOSE))


class WhatIsNamed(unittest.TestCase):
    def test_none(self):
        for formula in (ONE, ("text", "a1"), ("lost",), ("minus", ONE), ("if", ONE, ONE, ("lost",))):
            self.assertEqual(named_in(formula), [])

    def test_each_word(self):
        self.assertEqual(named_in(at(11, 2, (1, 0))), [(11, 2)])
        for word in GATHERS:
            self.assertEqual(named_in((word, AREA, LOOSE)), [AREA])
        for word in OPS + ("rest", "else"):
            self.assertEqual(named_in((word, at(5, 5), at(0, 0))), [(5, 5), (0, 0)])
        for word in ("minus", "not"):
            self.assertEqual(named_in((word, at(5, 5))), [(5, 5)])
        self.assertEqual(named_in(("if", at(3, 3), at(2, 2), at(1, 1))), [(3, 3), (2, 2), (1, 1)])

    def test_a_find_names_its_key_first(self):
        self.assertEqual(named_in(("find", at(9, 9), AREA, LOOSE)), [(9, 9), AREA])
        inner = ("find", ("sum", (0, 0, 0, 5), LOOSE), AREA, LOOSE)
        self.assertEqual(named_in(("find", inner, (0, 0, 1, 1), LOOSE)), [(0, 0, 0, 5), AREA, (0, 0, 1, 1)])

    def test_each_once_pinned_or_not(self):
        formula = ("+", ("+", at(1, 1, (1, 1)), at(0, 0)), ("+", at(1, 1), at(0, 0, (0, 1))))
        self.assertEqual(named_in(formula), [(1, 1), (0, 0)])
        areas = ("else", ("sum", AREA, LOOSE), ("find", at(1, 1), AREA, (1, 1, 1, 1)))
        self.assertEqual(named_in(areas), [AREA, (1, 1)])
        both = ("-", ("count", (1, 1, 1, 1), LOOSE), ("*", at(1, 1), ("least", (1, 1, 1, 1), LOOSE)))
        self.assertEqual(named_in(both), [(1, 1, 1, 1), (1, 1)])

    def test_left_to_right_through_all_depths(self):
        formula = ("if", ("<", at(9, 0), ("minus", at(8, 0))),
                   ("else", ("rest", at(7, 0), at(9, 0)), ("greatest", (6, 0, 6, 1), LOOSE)),
                   ("&", ("not", at(5, 0)), at(8, 0)))
        self.assertEqual(named_in(formula), [(9, 0), (8, 0), (7, 0), (6, 0, 6, 1), (5, 0)])

    def test_a_told_list_is_the_askers_own(self):
        formula = ("+", at(1, 1), at(0, 0))
        named_in(formula).append("more")
        self.assertEqual(named_in(formula), [(1, 1), (0, 0)])


if __name__ == "__main__":
    unittest.main()
