"""Waves: behind changes just the touched cells are reckoned anew."""

from onelook.causes import touched, unlike_standings, wave_list
from onelook.fresh import all_waiting, settled_book, standings, worths_by
from onelook.looks import look_at, places_read, reads_up_to
from onelook.sheets import formula_places, with_cells


def wave_of(sheet, book, changes):
    return wave_between(sheet, book, with_cells(sheet, changes))


def wave_between(sheet, book, sheet_now):
    book_now = book_behind(sheet, book, sheet_now)
    return (sheet_now, book_now, wave_by(sheet, book, sheet_now, book_now))


# Of two sheets whose books are both there already.
def wave_by(sheet, book, sheet_now, book_now):
    return wave_list(sheet_now, book_now, touched(sheet, book, sheet_now, book_now))


def book_behind(sheet, book, sheet_now):
    before = standings(sheet, book)
    worths = worths_by(sheet_now, {})
    waiting = all_waiting(sheet_now)
    same = same_formulas(sheet, book, sheet_now)
    return settled_book(
        worths, waiting, lambda cell: told_anew(sheet_now[cell], same.get(cell), before, worths, waiting))


# The old entries of the cells that have the formula that they had.
def same_formulas(sheet, book, sheet_now):
    same = {}
    for cell in formula_places(sheet_now):
        if sheet.get(cell) == sheet_now[cell]:
            same[cell] = book[cell]
    return same


def told_anew(formula, entry, before, worths, waiting):
    told = None if entry is None else told_by_old(entry, before, worths, waiting)
    return look_at(formula, worths, waiting) if told is None else told


# As long as what a cell has read stands as it stood, a look would go along the old reads: so none is
# needed, and where one of these places waits, the look would end there. None where one turned.
def told_by_old(entry, before, worths, waiting):
    for place in places_read(entry[2]):
        if place in waiting:
            return ("waits", place, reads_up_to(entry[2], place))
        if worths.get(place) != before.get(place):
            return None
    return entry


def turned_places(sheet, book, sheet_now, book_now):
    unlike = unlike_standings(sheet, book, sheet_now, book_now)
    return [(place, pair[0], pair[1]) for place, pair in unlike.items()]
