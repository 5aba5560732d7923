"""Formulas: tuples of a word, then its formulas, then what else the word asks for."""

from onelook.areas import is_area
from onelook.errors import BadFormula
from onelook.places import is_place

MOST_PIECES = 60
MOST_DEEP = 12
MOST_SIGNS = 40

AREA_WORDS = ("sum", "count", "least", "greatest", "find")

# How many formulas stand behind each word.
PART_COUNTS = {
    "num": 0,
    "text": 0,
    "lost": 0,
    "at": 0,
    "minus": 1,
    "not": 1,
    "+": 2,
    "-": 2,
    "*": 2,
    "/": 2,
    "&": 2,
    "<": 2,
    "=": 2,
    "rest": 2,
    "if": 3,
    "else": 2,
    "sum": 0,
    "count": 0,
    "least": 0,
    "greatest": 0,
    "find": 1,
}


def part_many(word):
    return PART_COUNTS[word]


def has_area(word):
    return word in AREA_WORDS


def parts_of(formula):
    return formula[1:1 + part_many(formula[0])]


def tail_of(formula):
    return formula[1 + part_many(formula[0]):]


def is_whole(thing):
    return isinstance(thing, int) and not isinstance(thing, bool)


def is_text(thing):
    return isinstance(thing, str) and len(thing) <= MOST_SIGNS and has_text_signs(thing)


def has_text_signs(text):
    return all([is_text_sign(ord(sign)) for sign in text])


def is_text_sign(number):
    # 34 is the quotation mark, 37 the percent sign.
    return 32 <= number <= 126 and number != 34 and number != 37


def is_number_row(thing, many):
    return isinstance(thing, tuple) and len(thing) == many and all([is_whole(number) for number in thing])


def are_pins(thing, many):
    return is_number_row(thing, many) and all([pin in (0, 1) for pin in thing])


def is_tail(word, tail):
    if word == "num":
        return len(tail) == 1 and is_whole(tail[0]) and 0 <= tail[0] <= 10 ** 60
    if word == "text":
        return len(tail) == 1 and is_text(tail[0])
    if word == "at":
        return len(tail) == 2 and is_number_row(tail[0], 2) and is_place(tail[0]) and are_pins(tail[1], 2)
    if has_area(word):
        return len(tail) == 2 and is_number_row(tail[0], 4) and is_area(tail[0]) and are_pins(tail[1], 4)
    return len(tail) == 0


def is_piece(thing):
    # Whether the parts are formulas is not looked at here: they are pieces of their own.
    if not isinstance(thing, tuple) or len(thing) == 0:
        return False
    word = thing[0]
    # Only a text is looked up: another entry may not bear to be a key.
    if not isinstance(word, str) or word not in PART_COUNTS:
        return False
    return len(parts_of(thing)) == part_many(word) and is_tail(word, tail_of(thing))


def made_formula(formula):
    # Level by level, and no further than the bounds: what is handed in may be of any depth.
    level = [formula]
    pieces = 0
    deep = 0
    while level:
        pieces += len(level)
        deep += 1
        if pieces > MOST_PIECES or deep > MOST_DEEP or not all([is_piece(thing) for thing in level]):
            raise BadFormula("no formula")
        level = level_below(level)
    return formula


def level_below(level):
    parts = []
    for piece in level:
        parts.extend(parts_of(piece))
    return parts


def levels_of(formula):
    levels = [[formula]]
    below = level_below(levels[0])
    while below:
        levels.append(below)
        below = level_below(below)
    return levels


def piece_many(formula):
    return sum([len(level) for level in levels_of(formula)])


def depth_of(formula):
    return len(levels_of(formula))


def named_in(formula):
    named = {}
    gather_named(formula, named)
    return list(named)


def gather_named(formula, named):
    for part in parts_of(formula):
        gather_named(part, named)
    # Behind the parts: a find is written with its area last.
    if formula[0] == "at" or has_area(formula[0]):
        named[tail_of(formula)[0]] = True


# goes(word, spot, pins) is where a cell or an area goes; where it goes to None its piece is lost, a find's
# f with it. Forms (tuples as formulas, of other numbers) are gone through likewise.
def rebuilt(formula, goes):
    word = formula[0]
    tail = tail_of(formula)
    if word == "at" or has_area(word):
        spot = goes(word, tail[0], tail[1])
        if spot is None:
            return ("lost",)
        tail = (spot, tail[1])
    return (word,) + tuple([rebuilt(part, goes) for part in parts_of(formula)]) + tail
