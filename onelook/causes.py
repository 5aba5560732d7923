"""What changes touch, by which cause, and whether a wave is right."""

from onelook.fresh import standings
from onelook.judge import hangs_well, has_due_entries, looks_tell
from onelook.looks import places_read
from onelook.rings import ranks_by
from onelook.sheets import formula_places, with_cells


def touched(sheet, book, sheet_now, book_now):
    unlike = unlike_standings(sheet, book, sheet_now, book_now)
    causes = {}
    for cell in formula_places(sheet_now):
        if sheet.get(cell) != sheet_now[cell]:
            causes[cell] = ("own",)
        else:
            met = [place for place in places_read(book[cell][2]) if place in unlike]
            if met:
                causes[cell] = ("read", met[0])
    return causes


# The places that stand otherwise, ascending, with how they stood and how they stand.
def unlike_standings(sheet, book, sheet_now, book_now):
    before = standings(sheet, book)
    now = standings(sheet_now, book_now)
    unlike = {}
    for place in sorted(list(before) + list(now)):
        if before.get(place) != now.get(place):
            unlike[place] = (before.get(place), now.get(place))
    return unlike


def wave_list(sheet_now, book_now, causes):
    ranks = ranks_by(sheet_now, book_now)
    ranked = sorted([(ranks[place], place) for place in causes if place in ranks])
    order = [pair[1] for pair in ranked] + sorted([place for place in causes if place not in ranks])
    return [(place, causes[place]) for place in order]


def right_wave(sheet, book, changes, book_now, wave):
    sheet_now = with_cells(sheet, changes)
    if not has_due_entries(sheet_now, book_now):
        return False
    causes = touched(sheet, book, sheet_now, book_now)
    if not looks_tell(sheet_now, book_now, list(causes)) or not keeps_others(book, book_now, causes):
        return False
    # Behind this alone all cells with worths have ranks, as the list asks for them.
    return hangs_well(sheet_now, book_now) and list(wave) == wave_list(sheet_now, book_now, causes)


def keeps_others(book, book_now, causes):
    return all([book_now[place] == book[place] for place in book_now if place not in causes])
