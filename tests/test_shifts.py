"""Promises 7.1 and 7.2: shifts, and where places and areas go by them."""

import unittest

from helper import RefusalChecks
from onelook.areas import area_many
from onelook.shifts import back_shift, made_shift, moved_area, moved_place

LINES = {"rows in": 99, "rows out": 99, "columns in": 26, "columns out": 26}
BACK = {"rows in": "rows out", "rows out": "rows in", "columns in": "columns out", "columns out": "columns in"}
NO_WAYS = ("", "rows", "in", "out", "rows  in", " rows in", "rows in ", "Rows in", "rowsin", "rows_in", "row in", "rows up",
           "columns", "column in", "columns on", "lines in", "in rows", "out columns", "~", "rows in, rows out")


def new_lines(shift, many):
    """For each old line its new one or None, by a list of lines that are put in and taken out."""
    lines = list(range(many))
    if shift[0].endswith("in"):
        lines[shift[1]:shift[1]] = [None] * shift[2]
        lines = lines[:many]
    else:
        del lines[shift[1]:shift[1] + shift[2]]
    return {line: lines.index(line) if line in lines else None for line in range(many)}


def some_shifts(way):
    lines = LINES[way]
    for at in range(lines):
        for many in sorted({1, 2, 3, lines - at - 1, lines - at}):
            if 1 <= many <= lines - at:
                yield (way, at, many)


class Made(RefusalChecks, unittest.TestCase):
    def test_at_each_line(self):
        for way, lines in LINES.items():
            for at in range(lines):
                for many in (1, lines - at):
                    self.assertEqual(made_shift(way, at, many), (way, at, many))
                    self.assertIs(type(made_shift(way, at, many)), tuple)

    def test_beyond_the_lines(self):
        for way, lines in LINES.items():
            for at in (-1, lines, lines + 1, -10 ** 59, 10 ** 59, -lines):
                for many in (1, 2, 0, -at, lines):
                    self.refused("BadCount", made_shift, way, at, many)
        self.refused("BadCount", made_shift, "columns in", 98, 1)
        self.refused("BadCount", made_shift, "columns out", 26, 1)
        self.assertEqual(made_shift("rows out", 98, 1), ("rows out", 98, 1))

    def test_counts(self):
        for way, lines in LINES.items():
            for at in (0, 1, lines // 2, lines - 1):
                for many in (0, -1, -lines, -10 ** 59):
                    self.refused("BadCount", made_shift, way, at, many)
                for many in (1, lines - at):
                    self.assertEqual(made_shift(way, at, many), (way, at, many))
                for many in (lines - at + 1, lines + 1, 10 ** 59):
                    if way.endswith("out"):
                        self.refused("BadCount", made_shift, way, at, many)
                    else:
                        # Of lines put in there may be any many: whether there is room is another matter.
                        self.assertEqual(made_shift(way, at, many), (way, at, many))

    def test_texts_that_are_no_way(self):
        for way in NO_WAYS:
            for at, many in ((0, 1), (98, 1), (-1, 0), (0, 10 ** 59)):
                self.refused("BadCount", made_shift, way, at, many)

    def test_the_shift_that_leads_back(self):
        for way in LINES:
            for shift in some_shifts(way):
                self.assertEqual(back_shift(shift), (BACK[way],) + shift[1:])
                self.assertEqual(back_shift(back_shift(shift)), shift)


class Places(unittest.TestCase):
    def test_each_way(self):
        cases = [
            (("rows in", 3, 2), ((2, 5), (2, 5)), ((3, 5), (5, 5)), ((4, 5), (6, 5)), ((96, 5), (98, 5)), ((97, 5), None)),
            (("rows out", 3, 2), ((2, 5), (2, 5)), ((3, 5), None), ((4, 5), None), ((5, 5), (3, 5)), ((98, 25), (96, 25))),
            (("columns in", 3, 2), ((7, 2), (7, 2)), ((7, 3), (7, 5)), ((7, 23), (7, 25)), ((7, 24), None), ((98, 25), None)),
            (("columns out", 3, 2), ((7, 2), (7, 2)), ((7, 3), None), ((7, 4), None), ((7, 5), (7, 3)), ((7, 25), (7, 23))),
            (("rows in", 0, 99), ((0, 0), None), ((98, 0), None)), (("rows in", 98, 1), ((98, 0), None), ((97, 0), (97, 0))),
            (("rows out", 0, 99), ((0, 0), None), ((98, 25), None)), (("rows out", 98, 1), ((98, 0), None), ((97, 0), (97, 0))),
            (("rows in", 5, 10 ** 59), ((5, 0), None), ((4, 25), (4, 25))), (("columns in", 0, 27), ((0, 0), None)),
        ]
        for shift, *pairs in cases:
            for place, moved in pairs:
                self.assertEqual(moved_place(shift, place), moved, (shift, place))

    def test_against_lines_put_in_and_taken_out(self):
        for way, lines in LINES.items():
            for shift in some_shifts(way):
                for line, moved in new_lines(shift, lines).items():
                    if lines == 99:
                        self.assertEqual(moved_place(shift, (line, 7)), None if moved is None else (moved, 7))
                    else:
                        self.assertEqual(moved_place(shift, (7, line)), None if moved is None else (7, moved))

    def test_back_again(self):
        for way in ("rows in", "columns in"):
            for shift in (way, 0, 1), (way, 5, 3), (way, 20, 6):
                for place in [(row, column) for row in range(0, 99, 7) for column in range(26)]:
                    moved = moved_place(shift, place)
                    if moved is not None:
                        self.assertEqual(moved_place(back_shift(shift), moved), place)


class Areas(unittest.TestCase):
    AREA = (10, 4, 14, 8)

    def assert_moved(self, shift, area):
        self.assertEqual(moved_area(shift, self.AREA), area, shift)
        self.assertEqual(moved_area((shift[0].replace("rows", "columns"),) + shift[1:], flipped(self.AREA)), flipped(area))

    def test_lines_put_in(self):
        for at in (0, 9, 10):
            self.assert_moved(("rows in", at, 3), (13, 4, 17, 8))
        for at in (11, 12, 14):
            self.assert_moved(("rows in", at, 3), (10, 4, 17, 8))
        for at in (15, 16, 25):
            self.assert_moved(("rows in", at, 3), self.AREA)

    def test_lines_taken_out(self):
        cases = [
            ((0, 1), (9, 4, 13, 8)), ((0, 10), (0, 4, 4, 8)), ((9, 1), (9, 4, 13, 8)), ((15, 1), self.AREA), ((20, 5), self.AREA),
            ((10, 1), (10, 4, 13, 8)), ((10, 3), (10, 4, 11, 8)), ((9, 3), (9, 4, 11, 8)), ((14, 1), (10, 4, 13, 8)),
            ((13, 2), (10, 4, 12, 8)), ((13, 9), (10, 4, 12, 8)), ((12, 1), (10, 4, 13, 8)), ((11, 3), (10, 4, 11, 8)),
            ((10, 4), (10, 4, 10, 8)), ((11, 4), (10, 4, 10, 8)), ((10, 5), None), ((9, 6), None), ((10, 6), None), ((5, 15), None),
            ((0, 26), None), ((0, 14), (0, 4, 0, 8)),
        ]
        for (at, many), area in cases:
            self.assert_moved(("rows out", at, many), area)

    def test_corners_beyond_the_last_line(self):
        for at in (0, 90, 91):
            self.assertEqual(moved_area(("rows in", at, 4), (90, 0, 94, 1)), (94 if at <= 90 else 90, 0, 98, 1))
            self.assertIsNone(moved_area(("rows in", at, 5), (90, 0, 94, 1)))
            self.assertIsNone(moved_area(("rows in", at, 10 ** 59), (90, 0, 94, 1)))
        self.assertEqual(moved_area(("rows in", 95, 10 ** 59), (90, 0, 94, 1)), (90, 0, 94, 1))
        self.assertEqual(moved_area(("columns in", 24, 1), (0, 23, 0, 24)), (0, 23, 0, 25))
        self.assertIsNone(moved_area(("columns in", 24, 2), (0, 23, 0, 24)))
        self.assertIsNone(moved_area(("columns in", 0, 2), (0, 23, 0, 24)))
        self.assertIsNone(moved_area(("rows in", 98, 1), (0, 0, 98, 0)))

    def test_more_than_300_places(self):
        self.assertEqual(moved_area(("rows in", 5, 2), (0, 0, 9, 24)), (0, 0, 11, 24))
        self.assertIsNone(moved_area(("rows in", 5, 3), (0, 0, 9, 24)))
        self.assertEqual(moved_area(("rows in", 0, 3), (0, 0, 9, 24)), (3, 0, 12, 24))
        self.assertEqual(moved_area(("columns in", 1, 1), (0, 0, 98, 1)), (0, 0, 98, 2))
        self.assertIsNone(moved_area(("columns in", 1, 2), (0, 0, 98, 1)))
        # Just 301 and just 300.
        self.assertIsNone(moved_area(("rows in", 1, 1), (0, 0, 41, 6)))
        self.assertEqual(moved_area(("rows in", 1, 1), (0, 0, 13, 19)), (0, 0, 14, 19))

    def test_against_lines_put_in_and_taken_out(self):
        rows = [(0, 0), (0, 10), (3, 8), (8, 8), (88, 98), (95, 97)]
        columns = [(0, 0), (0, 25), (4, 9), (24, 25), (20, 20)]
        for way, lines in LINES.items():
            for shift in some_shifts(way):
                moved = new_lines(shift, lines)
                for first, last in rows if lines == 99 else columns:
                    area = (first, 2, last, 3) if lines == 99 else (2, first, 3, last)
                    self.assertEqual(moved_area(shift, area), slow_area(shift, area, moved), (shift, area))


def flipped(area):
    return None if area is None else (area[1], area[0], area[3], area[2])


def slow_area(shift, area, moved):
    """Put in: the new corners. Taken out: from the least to the greatest new line of those that are left."""
    turn = 0 if shift[0].startswith("rows") else 1
    olds = range(area[turn], area[turn + 2] + 1)
    if shift[0].endswith("in"):
        news = [moved[olds[0]], moved[olds[-1]]]
        if None in news:
            return None
    else:
        news = [moved[line] for line in olds if moved[line] is not None]
        if not news:
            return None
    told = list(area)
    told[turn], told[turn + 2] = min(news), max(news)
    return tuple(told) if area_many(told) <= 300 else None


if __name__ == "__main__":
    unittest.main()
