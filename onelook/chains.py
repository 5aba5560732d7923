"""Chains from a place to a cell behind it, and waves gone back from cause to cause."""

from onelook.errors import NoCell
from onelook.support import places_under, readers_in


def chain(book, place, cell):
    if cell not in book:
        raise NoCell("the book has no entry for the cell")
    steps = steps_to(book, cell)
    if place not in steps:
        return None
    readers = readers_in(book)
    way = [place]
    while way[-1] != cell:
        # All that is left is as short by whichever of them: so the least one makes the first list.
        way.append(min([reader for reader in readers[way[-1]] if is_closer(steps, reader, way[-1])]))
    return way


def is_closer(steps, reader, place):
    return reader in steps and steps[reader] < steps[place]


# How many steps, at the least, lead from each place of the cell's support to the cell.
def steps_to(book, cell):
    steps = {cell: 0}
    level = [cell]
    while level:
        below = []
        for here in level:
            for place in places_under(book, here):
                if place not in steps:
                    steps[place] = steps[here] + 1
                    below.append(place)
        level = below
    return steps


# The wave alone tells the causes: the book is asked for nothing.
def causes_back(book, wave, place):
    causes = dict(wave)
    if place not in causes:
        raise NoCell("the place is not in the wave")
    way = [place]
    while way[-1] in causes and causes[way[-1]] != ("own",):
        way.append(causes[way[-1]][1])
    return way
