"""Promises 1.2 and 1.3: areas, their places and their names."""

import unittest

from helper import RefusalChecks
from onelook.areas import area_many, area_name, area_places, made_area, read_area, within

KNOWN = (
    ((1, 1, 4, 3), "b2:d5", 12), ((0, 0, 0, 0), "a1:a1", 1), ((98, 25, 98, 25), "z99:z99", 1),
    ((0, 0, 98, 0), "a1:a99", 99), ((98, 0, 98, 25), "a99:z99", 26), ((0, 0, 98, 2), "a1:c99", 297),
    ((0, 0, 11, 24), "a1:y12", 300), ((87, 1, 98, 25), "b88:z99", 300), ((10, 3, 39, 12), "d11:m40", 300),
)
TOO_GREAT = (
    ((0, 0, 42, 6), "a1:g43"), ((0, 0, 11, 25), "a1:z12"), ((0, 0, 98, 3), "a1:d99"),
    ((0, 0, 98, 25), "a1:z99"), ((80, 9, 98, 25), "j81:z99"),
)
WRONG_WAY = (((1, 0, 0, 0), "a2:a1"), ((0, 1, 0, 0), "b1:a1"), ((5, 1, 4, 9), "b6:j5"),
             ((4, 9, 5, 8), "j5:i6"), ((98, 25, 0, 0), "z99:a1"), ((98, 0, 0, 25), "a99:z1"))
NO_CORNERS = (
    (-1, 0, 0, 0), (0, -1, 0, 0), (0, 0, 99, 0), (0, 0, 0, 26), (99, 0, 99, 0), (0, 26, 0, 26),
    (-2, -2, -1, -1), (10 ** 59, 0, 10 ** 59, 0), (-10 ** 59, 0, 0, 0), (97, 24, 99, 26),
)
NO_NAMES = (
    "", ":", "::", "a1", "a1:", ":a1", "a1:b2:", ":a1:b2", "a1:b2:c3", "a1::b2", " a1:b2", "a1:b2 ",
    "a1 :b2", "a1: b2", "a1 : b2", "a1 b2", "a1;b2", "a0:b2", "a1:b0", "a01:b2", "a1:b02", "a1:b100",
    "a1:B2", "A1:b2", "a:b", "1:2", "a1:2", "1:b2", "$a1:b2", "a1:b$2", "a1-b2", "a1.b2", "(a1:b2)",
)


class Areas(RefusalChecks, unittest.TestCase):
    def test_known_areas(self):
        for area, name, many in KNOWN:
            self.assertEqual(made_area(*area), area)
            self.assertIs(type(made_area(*area)), tuple)
            self.assertEqual(area_name(area), name)
            self.assertEqual(read_area(name), area)
            self.assertEqual(area_many(area), many)
            self.assertEqual(len(area_places(area)), many)

    def test_places_are_gone_through_row_by_row(self):
        self.assertEqual(area_places((1, 1, 2, 3)), [(1, 1), (1, 2), (1, 3), (2, 1), (2, 2), (2, 3)])
        for area, name, many in KNOWN:
            places = area_places(area)
            self.assertEqual(places, sorted(places))
            self.assertEqual(len(set(places)), many, name)
            self.assertEqual((places[0], places[-1]), (area[:2], area[2:]))

    def test_within_is_just_its_places(self):
        for area in [known[0] for known in KNOWN]:
            places = set(area_places(area))
            for row in range(99):
                for column in range(26):
                    self.assertIs(within(area, (row, column)), (row, column) in places)

    def test_too_great(self):
        for area, name in TOO_GREAT:
            self.refused_by_all(area)
            self.refused("BadArea", read_area, name)

    def test_how_many_is_told_beyond_the_bound(self):
        self.assertEqual(area_many((0, 0, 42, 6)), 301)
        self.assertEqual(area_many((0, 0, 98, 25)), 2574)

    def test_just_301_places(self):
        self.refused_by_all((0, 0, 42, 6))

    def test_corners_the_wrong_way(self):
        for area, name in WRONG_WAY:
            self.refused_by_all(area)
            self.refused("BadText", read_area, name)

    def test_corners_that_are_no_places(self):
        for area in NO_CORNERS:
            self.refused_by_all(area)

    def test_texts_that_are_no_names(self):
        for text in NO_NAMES:
            self.refused("BadText", read_area, text)

    def test_a_wrong_text_is_told_ahead_of_a_great_area(self):
        for text in ("a1:z100", "a1:z099", "a1:z99 ", "a1:z99:z99", "z1:a99", "a0:z99"):
            self.refused("BadText", read_area, text)

    def test_a_told_list_is_the_askers_own(self):
        told = area_places((0, 0, 1, 1))
        told.append("more")
        told[0] = None
        self.assertEqual(area_places((0, 0, 1, 1)), [(0, 0), (0, 1), (1, 0), (1, 1)])

    def refused_by_all(self, area):
        self.refused("BadArea", made_area, *area)
        self.refused("BadArea", area_name, area)
        self.refused("BadArea", area_places, area)


if __name__ == "__main__":
    unittest.main()
