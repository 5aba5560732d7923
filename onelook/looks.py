"""A look at a formula: its worth, or what it waits for, and what it has read."""

from onelook.areas import is_area, places_between, within
from onelook.formulas import is_number_row, parts_of
from onelook.places import is_place
from onelook.worths import fault, gathered, is_fault, paired, same_worth, single


# While a formula is gone through, a part stands as its worth or as ("waits", place).
class Look:
    def __init__(self, worths, waiting):
        self.worths = worths
        self.waiting = waiting
        self.met = {}

    def standing(self, place):
        return ("waits", place) if place in self.waiting else self.worths.get(place)

    def cell(self, place):
        self.met[("at", place)] = True
        return self.standing(place)

    # No cell fits a key of None: with it only a fault or a cell that waits ends the stretch early.
    def stretch(self, area, key):
        standings = []
        for place in places_between(area):
            standings.append(self.standing(place))
            if halts(standings[-1]) or fits(standings[-1], key):
                self.met[("part", area, place)] = True
                return standings
        self.met[("part", area, area[2:])] = True
        return standings


# What is right of a fault, or of a cell that waits, is not gone through.
def halts(standing):
    return isinstance(standing, tuple)


def fits(standing, key):
    return key is not None and standing is not None and same_worth(standing, key)


def gone_through(formula, look):
    word = formula[0]
    if word == "num" or word == "text":
        return formula[1]
    if word == "lost":
        return fault("lost")
    if word == "at":
        return look.cell(formula[1])
    if word == "if":
        return if_standing(formula, look)
    if word == "else":
        return else_standing(formula, look)
    if word == "find":
        return find_standing(formula, look)
    if parts_of(formula):
        return reckoned_standing(formula, look)
    return gathered_standing(word, formula[1], look)


def reckoned_standing(formula, look):
    standings = []
    for part in parts_of(formula):
        standings.append(gone_through(part, look))
        if halts(standings[-1]):
            return standings[-1]
    if len(standings) == 1:
        return single(formula[0], standings[0])
    return paired(formula[0], standings[0], standings[1])


def if_standing(formula, look):
    asked = gone_through(formula[1], look)
    if halts(asked):
        return asked
    denied = single("not", asked)
    if is_fault(denied):
        return denied
    return gone_through(formula[3] if denied == 1 else formula[2], look)


def else_standing(formula, look):
    standing = gone_through(formula[1], look)
    return gone_through(formula[2], look) if is_fault(standing) else standing


def gathered_standing(word, area, look):
    standings = look.stretch(area, None)
    return standings[-1] if halts(standings[-1]) else gathered(word, standings)


def find_standing(formula, look):
    key = gone_through(formula[1], look)
    if halts(key):
        return key
    if key is None:
        return fault("none")
    area = formula[2]
    standings = look.stretch((area[0], area[1], area[2], area[1]), key)
    if halts(standings[-1]):
        return standings[-1]
    if not fits(standings[-1], key):
        return fault("none")
    return look.cell((area[0] + len(standings) - 1, area[3]))


def look_at(formula, worths, waiting):
    look = Look(worths, waiting)
    standing = gone_through(formula, look)
    reads = tuple(look.met)
    if halts(standing) and not is_fault(standing):
        return ("waits", standing[1], reads)
    return ("worth", standing, reads)


def places_read(reads):
    places = {}
    for item in reads:
        for place in item_places(item):
            places[place] = True
    return list(places)


def item_places(item):
    if item[0] == "at":
        return [item[1]]
    return [place for place in places_between(item[1]) if place <= item[2]]


# Of a thing of any form: books that are still to be judged hold such things.
def is_item(thing):
    if not isinstance(thing, tuple):
        return False
    if thing[:1] == ("at",):
        return len(thing) == 2 and is_number_row(thing[1], 2) and is_place(thing[1])
    if thing[:1] == ("part",):
        return len(thing) == 3 and is_part(thing[1], thing[2])
    return False


def is_part(area, place):
    return is_number_row(area, 4) and is_area(area) and is_number_row(place, 2) and within(area, place)


def reads_up_to(reads, place):
    kept = []
    for item in reads:
        if place in item_places(item):
            kept.append(("at", place) if item[0] == "at" else ("part", item[1], place))
            return tuple(kept)
        kept.append(item)
    return tuple(kept)
