"""Formulas turned and sheets shifted by rows and columns put in and taken out."""

from onelook.errors import NoRoom
from onelook.formulas import rebuilt
from onelook.shifts import is_in, is_of_rows, is_taken, moved_area, moved_place, takes_place


def turned(shift, formula):
    return rebuilt(formula, lambda word, spot, pins: turned_spot(shift, word, spot))


# None for what is lost: only taking out loses something.
def turned_spot(shift, word, spot):
    if word == "find" and loses_end_column(shift, spot):
        return None
    spot_now = moved_place(shift, spot) if word == "at" else moved_area(shift, spot)
    if spot_now is None and is_in(shift):
        raise NoRoom("a formula's cell or area has no room")
    return spot_now


# Without its first or its last column a find would search or tell something else.
def loses_end_column(shift, area):
    return not is_of_rows(shift) and (is_taken(shift, area[1]) or is_taken(shift, area[3]))


def shifted(sheet, shift):
    sheet_now = {}
    for place in sorted(sheet):
        if not takes_place(shift, place):
            sheet_now[place_with_room(shift, place)] = turned_content(shift, sheet[place])
    return sheet_now


def place_with_room(shift, place):
    place_now = moved_place(shift, place)
    if place_now is None:
        raise NoRoom("a filled cell would come beyond the last line")
    return place_now


def turned_content(shift, content):
    return turned(shift, content) if isinstance(content, tuple) else content
