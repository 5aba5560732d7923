"""Books carried through shifts, and sheets readied so that nothing else is to be reckoned."""

from onelook.errors import NoRoom
from onelook.formulas import rebuilt
from onelook.shifts import is_in, moved_area, moved_place, takes_place
from onelook.turned import shifted, turned_spot
from onelook.waves import wave_between


def is_plain(sheet, shift):
    return has_room(sheet, shift) if is_in(shift) else not readied(sheet, shift)


def has_room(sheet, shift):
    try:
        shifted(sheet, shift)
    except NoRoom:
        return False
    return True


def carried(book, shift):
    book_now = {}
    for place in sorted(book):
        book_now[moved_place(shift, place)] = carried_entry(shift, book[place])
    return book_now


def carried_entry(shift, entry):
    items = {}
    for item in entry[2]:
        items[carried_item(shift, item)] = True
    told = entry[1] if entry[0] == "worth" else moved_place(shift, entry[1])
    return (entry[0], told, tuple(items))


def carried_item(shift, item):
    if item[0] == "at":
        return ("at", moved_place(shift, item[1]))
    area = moved_area(shift, item[1])
    # An area read to its end may end with a blank place that is taken out.
    read_whole = item[2] == item[1][2:]
    return ("part", area, area[2:] if read_whole else moved_place(shift, item[2]))


def readied(sheet, shift):
    ready = readied_sheet(sheet, shift)
    changes = {}
    for place in sorted(sheet):
        if ready.get(place) != sheet[place]:
            changes[place] = ready.get(place)
    return changes


def readied_sheet(sheet, shift):
    if is_in(shift):
        return dict(sheet)
    ready = {}
    for place in sheet:
        if not takes_place(shift, place):
            ready[place] = readied_content(shift, sheet[place])
    return ready


def readied_content(shift, content):
    if not isinstance(content, tuple):
        return content
    return rebuilt(content, lambda word, spot, pins: None if turned_spot(shift, word, spot) is None else spot)


def shift_wave(sheet, book, shift):
    sheet_now = shifted(sheet, shift)
    ready = wave_between(sheet, book, readied_sheet(sheet, shift))
    return (sheet_now, carried(ready[1], shift), ready[2])
