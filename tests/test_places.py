"""Promises 1.1 and 1.3: places and their names."""

import unittest

from helper import RefusalChecks
from onelook.places import made_place, place_name, read_place

KNOWN = (
    ((0, 0), "a1"), ((11, 2), "c12"), ((0, 25), "z1"), ((98, 0), "a99"), ((98, 25), "z99"),
    ((8, 1), "b9"), ((9, 1), "b10"), ((89, 12), "m90"),
)
BEYOND = (
    (-1, 0), (0, -1), (99, 0), (0, 26), (99, 26), (-1, -1), (98, 26), (99, 25),
    (10 ** 59, 0), (0, 10 ** 59), (-10 ** 59, 3), (3, -10 ** 59), (1000, 1000), (-98, 0), (0, -26),
)
NO_NAMES = (
    "", "a", "1", "a0", "a00", "a01", "a010", "a100", "a1000", "z990", "A1", "Z99", "aa1", "1a", "11",
    " a1", "a1 ", "a 1", " ", "a1b", "$a1", "a$1", "a+1", "a-1", "a1:", ":a1", "a1:a1", "a1.", "{1",
    "`1", "@1", "a/", "a:", "a9:", "a1~", "-a1", "a" + "1" * 5000, "a1" + " " * 5000,
)


class Places(RefusalChecks, unittest.TestCase):
    def test_every_place_is_made_named_and_read_back(self):
        names = {}
        for row in range(99):
            for column in range(26):
                place = made_place(row, column)
                self.assertEqual(place, (row, column))
                self.assertIs(type(place), tuple)
                name = place_name(place)
                self.assertEqual(name, "abcdefghijklmnopqrstuvwxyz"[column] + str(row + 1))
                self.assertEqual(read_place(name), place)
                names[name] = True
        self.assertEqual(len(names), 99 * 26)

    def test_known_names(self):
        for place, name in KNOWN:
            self.assertEqual(place_name(place), name)
            self.assertEqual(read_place(name), place)

    def test_beyond_the_sheet(self):
        for place in BEYOND:
            self.refused("BadPlace", made_place, *place)
            self.refused("BadPlace", place_name, place)

    def test_texts_that_are_no_names(self):
        for text in NO_NAMES:
            self.refused("BadText", read_place, text)

    def test_every_sign_anywhere(self):
        for number in range(32, 127):
            sign = chr(number)
            for text in (sign + "a1", "a" + sign + "1"):
                self.refused_unless_a_name(text)
            self.refused_unless_a_name("a1" + sign)
            self.refused_unless_a_name(sign + "1")
            self.refused_unless_a_name("a" + sign)

    def refused_unless_a_name(self, text):
        if text in [place_name((row, column)) for row in range(99) for column in range(26)]:
            self.assertEqual(place_name(read_place(text)), text)
        else:
            self.refused("BadText", read_place, text)


if __name__ == "__main__":
    unittest.main()
