"""What several test files share."""

from onelook import errors
from onelook.formulas import piece_many
from onelook.formulatext import read_formula
from onelook.places import read_place
from onelook.sheets import made_sheet


class RefusalChecks:
    """Beside unittest.TestCase: asks for a refusal of just this class."""

    def refused(self, name, call, *arguments):
        try:
            told = call(*arguments)
        except errors.SheetError as error:
            self.assertEqual(type(error).__name__, name, arguments)
        else:
            self.fail(f"{arguments!r} was answered by {told!r}, {name} was due")


FREE = (0, 0)
LOOSE = (0, 0, 0, 0)


def num(number):
    return ("num", number)


def at(row, column, pins=FREE):
    return ("at", (row, column), pins)


def nested(word, depth):
    """A formula of words with one part each, so many deep."""
    formula = num(1)
    for _ in range(depth - 1):
        formula = (word, formula)
    return formula


def spread(pieces):
    """A formula of so many pieces, as flat as sums go."""
    level = [num(1)] * ((pieces + 1) // 2)
    while len(level) > 1:
        joined = [("+", one, other) for one, other in zip(level[::2], level[1::2])]
        if len(level) % 2:
            joined.append(level[-1])
        level = joined
    if pieces % 2 == 0:
        return ("minus", level[0]) if pieces > 0 else None
    return level[0]


def some_formula(chance, depth, places=((0, 0), (3, 2), (98, 25))):
    """A formula by a chance that is given its seed, at most so deep."""
    if depth < 2 or chance.random() < 0.2:
        return some_leaf(chance, places)
    word = chance.choice(["minus", "not", "+", "-", "*", "/", "&", "<", "=", "rest", "if", "else", "find"])
    many = {"minus": 1, "not": 1, "if": 3, "find": 1}.get(word, 2)
    parts = tuple(some_formula(chance, depth - 1, places) for _ in range(many))
    if word == "find":
        return (word,) + parts + some_area(chance, places)
    return (word,) + parts


def some_leaf(chance, places):
    kind = chance.randrange(8)
    if kind < 4:
        return ("at", chance.choice(places), (chance.randrange(2), chance.randrange(2)))
    if kind == 4:
        return num(chance.choice([0, 1, 2, 7, 10 ** 60]))
    if kind == 5:
        return ("text", chance.choice(["", "a", "b, (c", "a1 + 1", "$~"]))
    if kind == 6:
        return (chance.choice(["sum", "count", "least", "greatest"]),) + some_area(chance, places)
    return ("lost",) if chance.random() < 0.3 else num(chance.randrange(5))


def some_area(chance, places):
    one, other = chance.choice(places), chance.choice(places)
    top, bottom = sorted([one[0], other[0]])
    left, right = sorted([one[1], other[1]])
    if (bottom - top + 1) * (right - left + 1) > 300:
        bottom, right = top, left
    return ((top, left, bottom, right), tuple(chance.randrange(2) for _ in range(4)))


def spot(name):
    return read_place(name)


def spots(names):
    return [read_place(name) for name in names.split()]


def content_by(told):
    """A content as it is; a text that begins with = as the formula behind it."""
    return read_formula(told[1:]) if isinstance(told, str) and told[:1] == "=" else told


def cells_by(told):
    """A dict from places to contents, of one from names."""
    return {read_place(name): content_by(content) for name, content in told.items()}


def sheet_by(told):
    return made_sheet(list(cells_by(told).items()))


def row_of(many, step):
    """Cells that each read the one so many steps on in the row, as filled rows of the sheet."""
    spots = [(number // 20, number % 20) for number in range(many)]
    cells = []
    for number, place in enumerate(spots):
        if 0 <= number + step < many:
            cells.append((place, ("+", at(*spots[number + step]), num(1))))
        else:
            cells.append((place, num(1)))
    return spots, made_sheet(cells)


SPOTS = tuple((row, column) for row in range(4) for column in range(4))


def some_content(chance, places=SPOTS, deep=4):
    """A number, a text or, mostly, a formula."""
    if chance.randrange(7) == 0:
        return chance.choice([0, 1, -3, 10 ** 60, "a", ""])
    formula = some_formula(chance, chance.randrange(1, deep + 1), places)
    return formula if piece_many(formula) <= 60 else num(1)


def some_sheet(chance, places=SPOTS, deep=4):
    """A sheet in which most of these places are filled."""
    return made_sheet([(place, some_content(chance, places, deep)) for place in places if chance.randrange(8)])


def some_changes(chance, sheet, places=SPOTS):
    """Changes of some cells: cleared, put, put as they were, or put as the number that they had."""
    changes = {}
    for place in chance.sample(places, chance.choice([1, 1, 2, 5])):
        kind = chance.randrange(5)
        if kind == 0:
            changes[place] = None
        elif kind == 1:
            changes[place] = sheet.get(place)
        elif kind == 2:
            changes[place] = chance.randrange(4)
        else:
            changes[place] = some_content(chance, places)
    return changes


def some_small_deed(chance, places=SPOTS):
    kind = chance.randrange(5)
    if kind == 0:
        return ("clear", chance.choice(places))
    if kind == 1:
        return ("copy", some_area(chance, places)[0], chance.choice(places))
    return ("put", chance.choice(places), some_content(chance, places))


def some_deed(chance, places=SPOTS):
    """A deed of each kind, one by which something may be refused for want of room too."""
    kind = chance.randrange(6)
    if kind == 0:
        way = chance.choice(["rows in", "rows out", "columns in", "columns out"])
        return ("shift", way, chance.randrange(5), chance.choice([1, 1, 1, 2, 22]))
    if kind == 1:
        return ("bundle", tuple(some_small_deed(chance, places) for _ in range(chance.randrange(5))))
    return some_small_deed(chance, places)
