"""Books: all cells with formulas reckoned afresh, and how places stand by them."""

from onelook.looks import look_at
from onelook.sheets import formula_places, has_formula

WAITS = ("waits",)


def fresh_book(sheet):
    worths = worths_by(sheet, {})
    waiting = all_waiting(sheet)
    return settled_book(worths, waiting, lambda place: look_at(sheet[place], worths, waiting))


def all_waiting(sheet):
    waiting = {}
    for place in formula_places(sheet):
        waiting[place] = True
    return waiting


# At first all cells with formulas wait; tell(place) is what a look at one tells by the worths that there are.
def settled_book(worths, waiting, tell):
    places = sorted(waiting)
    entries = {}
    for place in places:
        if place not in entries:
            settle(place, worths, waiting, entries, tell)
    book = {}
    for place in places:
        book[place] = entries[place]
    return book


# Goes on to what a cell waits for and comes back: so each cell is looked at once more only
# for a cell that is first asked for by it, not in round after round.
def settle(place, worths, waiting, entries, tell):
    way = [place]
    while way:
        cell = way[-1]
        entry = tell(cell)
        entries[cell] = entry
        if entry[0] == "worth":
            worths[cell] = entry[1]
            waiting.pop(cell)
            way.pop()
        elif entry[1] in entries:
            # It is on the way itself, or waits for good: so do all on the way, as they were looked at.
            return
        else:
            way.append(entry[1])


def worths_by(sheet, book):
    worths = {}
    for place, content in sheet.items():
        if not has_formula(sheet, place):
            worths[place] = content
        elif place in book and book[place][0] == "worth":
            worths[place] = book[place][1]
    return worths


def waiting_in(book):
    return sorted([place for place in book if book[place][0] == "waits"])


def stands(sheet, book, place):
    if not has_formula(sheet, place):
        return sheet.get(place)
    entry = book[place]
    return entry[1] if entry[0] == "worth" else WAITS


def standings(sheet, book):
    told = {}
    for place in sheet:
        told[place] = stands(sheet, book, place)
    return told
