"""Areas, tuples (top, left, bottom, right), their places and their names."""

from onelook.errors import BadArea, BadText
from onelook.places import is_place, place_name, read_place

MOST_PLACES = 300


def made_area(top, left, bottom, right):
    area = (top, left, bottom, right)
    if not is_area(area):
        raise BadArea("corners that are none, or more than 300 places")
    return area


def is_area(area):
    return has_corners(area) and area_many(area) <= MOST_PLACES


def has_corners(area):
    in_order = area[0] <= area[2] and area[1] <= area[3]
    return in_order and is_place(area[:2]) and is_place(area[2:])


def area_many(area):
    return (area[2] - area[0] + 1) * (area[3] - area[1] + 1)


def within(area, place):
    return area[0] <= place[0] <= area[2] and area[1] <= place[1] <= area[3]


def area_places(area):
    return places_between(made_area(area[0], area[1], area[2], area[3]))


def places_between(area):
    places = []
    for row in range(area[0], area[2] + 1):
        places.extend([(row, column) for column in range(area[1], area[3] + 1)])
    return places


def area_name(area):
    made = made_area(area[0], area[1], area[2], area[3])
    return place_name(made[:2]) + ":" + place_name(made[2:])


def read_area(text):
    names = text.split(":")
    if len(names) != 2:
        raise BadText("no name of an area")
    area = joined_corners(read_place(names[0]), read_place(names[1]))
    return made_area(area[0], area[1], area[2], area[3])


def joined_corners(first, last):
    # Corners the wrong way are a wrong text; that an area is too great is for others to tell.
    area = first + last
    if not has_corners(area):
        raise BadText("corners the wrong way")
    return area
