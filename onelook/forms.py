"""Formulas seen from their cells: forms, formulas alike, and heaps of them."""

from onelook.areas import is_area
from onelook.formulas import rebuilt
from onelook.places import is_place
from onelook.sheets import formula_places


def form_of(formula, place):
    back = (-place[0], -place[1])
    return rebuilt(formula, lambda word, spot, pins: stepped(spot, pins, back))


def formula_by(form, place):
    return rebuilt(form, lambda word, spot, pins: spot_by(stepped(spot, pins, place)))


# A place's two numbers and an area's four are rows and columns by turns: so the steps go on by turns too.
def stepped(spot, pins, steps):
    return tuple([number if pin == 1 else number + step for number, pin, step in zip(spot, pins, steps + steps)])


def spot_by(spot):
    is_one = is_place(spot) if len(spot) == 2 else is_area(spot)
    return spot if is_one else None


def alike(one, here, other, there):
    return form_of(one, here) == form_of(other, there)


def heaps_of(sheet):
    heaps = {}
    for place in formula_places(sheet):
        heaps.setdefault(form_of(sheet[place], place), []).append(place)
    return list(heaps.values())
