"""Shifts: rows and columns put in and taken out, and where places and areas go by them."""

from onelook.areas import is_area
from onelook.errors import BadCount
from onelook.places import COLUMNS, ROWS

# Each way with the one that leads back.
BACK_WAYS = {
    "rows in": "rows out",
    "rows out": "rows in",
    "columns in": "columns out",
    "columns out": "columns in",
}
IN_WAYS = ("rows in", "columns in")
ROW_WAYS = ("rows in", "rows out")


def made_shift(way, at, many):
    if way not in BACK_WAYS:
        raise BadCount("no way of a shift")
    lines = ROWS if way in ROW_WAYS else COLUMNS
    # Of lines taken out the last is one of the sheet; of lines put in there may be any many.
    last = at if way in IN_WAYS else at + many - 1
    if at < 0 or many < 1 or last >= lines:
        raise BadCount("lines that are none")
    return (way, at, many)


def back_shift(shift):
    return made_shift(BACK_WAYS[shift[0]], shift[1], shift[2])


def is_in(shift):
    return shift[0] in IN_WAYS


def is_of_rows(shift):
    return shift[0] in ROW_WAYS


def is_taken(shift, line):
    return not is_in(shift) and shift[1] <= line < shift[1] + shift[2]


def takes_place(shift, place):
    return is_taken(shift, place[0] if is_of_rows(shift) else place[1])


def moved_line(shift, line):
    if is_taken(shift, line):
        return None
    if line < shift[1]:
        return line
    if not is_in(shift):
        return line - shift[2]
    lines = ROWS if is_of_rows(shift) else COLUMNS
    return line + shift[2] if line + shift[2] < lines else None


def moved_place(shift, place):
    if is_of_rows(shift):
        row = moved_line(shift, place[0])
        return None if row is None else (row, place[1])
    column = moved_line(shift, place[1])
    return None if column is None else (place[0], column)


def moved_area(shift, area):
    area_now = area_with_ends(shift, area)
    return area_now if area_now is not None and is_area(area_now) else None


def area_with_ends(shift, area):
    if is_of_rows(shift):
        ends = moved_ends(shift, area[0], area[2])
        return None if ends is None else (ends[0], area[1], ends[1], area[3])
    ends = moved_ends(shift, area[1], area[3])
    return None if ends is None else (area[0], ends[0], area[2], ends[1])


def moved_ends(shift, first, last):
    left = [line for line in range(first, last + 1) if not is_taken(shift, line)]
    if not left:
        return None
    ends = (moved_line(shift, left[0]), moved_line(shift, left[-1]))
    return None if None in ends else ends
