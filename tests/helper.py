"""What several test files share."""

from onelook import errors


class RefusalChecks:
    """Beside unittest.TestCase: asks for a refusal of just this class."""

    def refused(self, name, call, *arguments):
        try:
            told = call(*arguments)
        except errors.SheetError as error:
            self.assertEqual(type(error).__name__, name, arguments)
        else:
            self.fail(f"{arguments!r} was answered by {told!r}, {name} was due")


FREE = (0, 0)
LOOSE = (0, 0, 0, 0)


def num(number):
    return ("num", number)


def at(row, column, pins=FREE):
    return ("at", (row, column), pins)


def nested(word, depth):
    """A formula of words with one part each, so many deep."""
    formula = num(1)
    for _ in range(depth - 1):
        formula = (word, formula)
    return formula


def spread(pieces):
    """A formula of so many pieces, as flat as sums go."""
    level = [num(1)] * ((pieces + 1) // 2)
    while len(level) > 1:
        joined = [("+", one, other) for one, other in zip(level[::2], level[1::2])]
        if len(level) % 2:
            joined.append(level[-1])
        level = joined
    if pieces % 2 == 0:
        return ("minus", level[0]) if pieces > 0 else None
    return level[0]


def some_formula(chance, depth, places=((0, 0), (3, 2), (98, 25))):
    """A formula by a chance that is given its seed, at most so deep."""
    if depth < 2 or chance.random() < 0.2:
        return some_leaf(chance, places)
    word = chance.choice(["minus", "not", "+", "-", "*", "/", "&", "<", "=", "rest", "if", "else", "find"])
    many = {"minus": 1, "not": 1, "if": 3, "find": 1}.get(word, 2)
    parts = tuple(some_formula(chance, depth - 1, places) for _ in range(many))
    if word == "find":
        return (word,) + parts + some_area(chance, places)
    return (word,) + parts


def some_leaf(chance, places):
    kind = chance.randrange(8)
    if kind < 4:
        return ("at", chance.choice(places), (chance.randrange(2), chance.randrange(2)))
    if kind == 4:
        return num(chance.choice([0, 1, 2, 7, 10 ** 60]))
    if kind == 5:
        return ("text", chance.choice(["", "a", "b, (c", "a1 + 1", "$~"]))
    if kind == 6:
        return (chance.choice(["sum", "count", "least", "greatest"]),) + some_area(chance, places)
    return ("lost",) if chance.random() < 0.3 else num(chance.randrange(5))


def some_area(chance, places):
    one, other = chance.choice(places), chance.choice(places)
    top, bottom = sorted([one[0], other[0]])
    left, right = sorted([one[1], other[1]])
    if (bottom - top + 1) * (right - left + 1) > 300:
        bottom, right = top, left
    return ((top, left, bottom, right), tuple(chance.randrange(2) for _ in range(4)))
