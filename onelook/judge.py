"""Books judged: whether one is right for a sheet, by one look at each cell."""

from onelook.fresh import waiting_in, worths_by
from onelook.looks import look_at
from onelook.rings import cells_read, ranks_of
from onelook.sheets import formula_places
from onelook.worths import is_fault


def right_book(sheet, book):
    if not has_due_entries(sheet, book):
        return False
    return looks_tell(sheet, book, formula_places(sheet)) and hangs_well(sheet, book)


# What a look is to meet are worths: other tuples would be taken for cells that wait.
def has_due_entries(sheet, book):
    return sorted(book) == formula_places(sheet) and all([tells_standing(book[place]) for place in book])


def tells_standing(entry):
    return entry[0] == "waits" or not isinstance(entry[1], tuple) or is_fault(entry[1])


def looks_tell(sheet, book, places):
    worths = worths_by(sheet, book)
    waiting = {}
    for place in waiting_in(book):
        waiting[place] = True
    return all([look_at(sheet[place], worths, waiting) == book[place] for place in places])


def hangs_well(sheet, book):
    waiting = waiting_in(book)
    return all([book[place][1] in waiting for place in waiting]) and round_read(sheet, book) is None


def round_read(sheet, book):
    reads = cells_read(sheet, book)
    ranks = ranks_of(reads)
    # What has no rank is in a ring or only leads into one: a cell of the second kind never comes back to itself.
    for cell in reads:
        if cell not in ranks and comes_back(reads, ranks, cell):
            return cell
    return None


def comes_back(reads, ranks, start):
    seen = {}
    ahead = [start]
    while ahead:
        here = ahead.pop()
        for cell in reads[here]:
            if cell == start:
                return True
            if cell not in ranks and cell not in seen:
                seen[cell] = True
                ahead.append(cell)
    return False
