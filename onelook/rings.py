"""Rings of cells that wait for one another, what cells with worths read, and their ranks."""

from onelook.errors import NotWaiting
from onelook.fresh import waiting_in
from onelook.looks import is_item, places_read
from onelook.sheets import formula_places


def rings_in(book):
    rings = {}
    for place in waiting_in(book):
        trail = trail_from(book, place)
        rings[from_least(trail[ring_start(book, trail):])] = True
    return sorted(rings)


def way_to_ring(book, place):
    if place not in book or book[place][0] != "waits":
        raise NotWaiting("the place has no entry that waits")
    trail = trail_from(book, place)
    return trail[:ring_start(book, trail) + 1]


# The cells from a waiting one on, each once: so the last of them waits for one of the trail.
def trail_from(book, place):
    trail = {}
    cell = place
    while cell not in trail:
        trail[cell] = True
        cell = book[cell][1]
    return list(trail)


def ring_start(book, trail):
    return trail.index(book[trail[-1]][1])


def from_least(ring):
    start = ring.index(min(ring))
    return tuple(ring[start:] + ring[:start])


def ranks_by(sheet, book):
    return ranks_of(cells_read(sheet, book))


# For each cell with a formula that is told with a worth those of them that it reads.
def cells_read(sheet, book):
    reads = {}
    for cell in formula_places(sheet):
        if cell in book and book[cell][0] == "worth":
            reads[cell] = []
    for cell in list(reads):
        items = [item for item in book[cell][2] if is_item(item)]
        reads[cell] = [place for place in places_read(items) if place in reads]
    return reads


# Rank by rank, each cell as soon as all that it reads have one: cells that lead into a ring never have.
def ranks_of(reads):
    readers = readers_of(reads)
    missing = {}
    for cell in reads:
        missing[cell] = len(reads[cell])
    ranks = {}
    rank = 0
    level = [cell for cell in reads if missing[cell] == 0]
    while level:
        above = []
        for cell in level:
            ranks[cell] = rank
            above.extend(readied_readers(readers[cell], missing))
        level = above
        rank += 1
    return ranks


def readied_readers(readers, missing):
    ready = []
    for reader in readers:
        missing[reader] -= 1
        if missing[reader] == 0:
            ready.append(reader)
    return ready


def readers_of(reads):
    readers = {}
    for cell in reads:
        readers[cell] = []
    for cell in reads:
        for place in reads[cell]:
            readers[place].append(cell)
    return readers
