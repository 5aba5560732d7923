"""Formulas and blocks of cells copied."""

from onelook.areas import area_places, has_corners, made_area
from onelook.errors import NoRoom
from onelook.forms import form_of, formula_by
from onelook.places import made_place
from onelook.sheets import has_formula


def copied(formula, here, there):
    return formula_by(form_of(formula, here), there)


def block_changes(sheet, area, place):
    area_now = area_come_to(area, place)
    changes = {}
    for here, there in zip(area_places(area), area_places(area_now)):
        changes[there] = copied(sheet[here], here, there) if has_formula(sheet, here) else sheet.get(here)
    return changes


def area_come_to(area, place):
    made = made_area(area[0], area[1], area[2], area[3])
    first = made_place(place[0], place[1])
    area_now = first + (first[0] + made[2] - made[0], first[1] + made[3] - made[1])
    if not has_corners(area_now):
        raise NoRoom("the block would go beyond the last row or column")
    return area_now
