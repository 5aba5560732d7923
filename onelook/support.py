"""What a worth hangs on: the support of a place, and the cells behind it."""

from onelook.looks import places_read


def support_of(book, place):
    return sorted(reached_from(place, lambda here: places_under(book, here)))


def behind(book, place):
    readers = readers_in(book)
    # Going against the reads meets cells with entries alone, but for the place itself.
    return [cell for cell in sorted(reached_from(place, lambda here: readers.get(here, []))) if cell in book]


def agree(sheet, other, places):
    return all([sheet.get(place) == other.get(place) for place in places])


def places_under(book, place):
    return places_read(book[place][2]) if place in book else []


def readers_in(book):
    readers = {}
    for cell in book:
        for place in places_under(book, cell):
            readers.setdefault(place, []).append(cell)
    return readers


# The place itself with all to which steps lead from it, in however many.
def reached_from(place, steps):
    reached = {place: True}
    ahead = [place]
    while ahead:
        here = ahead.pop()
        for further in steps(here):
            if further not in reached:
                reached[further] = True
                ahead.append(further)
    return list(reached)
