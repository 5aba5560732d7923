"""Formulas and blocks of cells copied."""

from onelook.areas import area_places, has_corners
from onelook.errors import NoRoom
from onelook.forms import form_of, formula_by
from onelook.places import made_place
from onelook.sheets import has_formula


def copied(formula, here, there):
    return formula_by(form_of(formula, here), there)


def block_changes(sheet, area, place):
    places = area_places(area)
    made_place(place[0], place[1])
    steps = (place[0] - area[0], place[1] - area[1])
    if not has_corners(place + stepped_place(area[2:], steps)):
        raise NoRoom("the block would go beyond the last row or column")
    changes = {}
    for here in places:
        there = stepped_place(here, steps)
        changes[there] = copied(sheet[here], here, there) if has_formula(sheet, here) else sheet.get(here)
    return changes


def stepped_place(place, steps):
    return (place[0] + steps[0], place[1] + steps[1])
