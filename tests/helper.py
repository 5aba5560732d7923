"""What several test files share."""

from onelook import errors


class RefusalChecks:
    """Beside unittest.TestCase: asks for a refusal of just this class."""

    def refused(self, name, call, *arguments):
        try:
            told = call(*arguments)
        except errors.SheetError as error:
            self.assertEqual(type(error).__name__, name, arguments)
        else:
            self.fail(f"{arguments!r} was answered by {told!r}, {name} was due")


FREE = (0, 0)
LOOSE = (0, 0, 0, 0)


def num(number):
    return ("num", number)


def at(row, column, pins=FREE):
    return ("at", (row, column), pins)


def nested(word, depth):
    """A formula of words with one part each, so many deep."""
    formula = num(1)
    for _ in range(depth - 1):
        formula = (word, formula)
    return formula


def spread(pieces):
    """A formula of so many pieces, as flat as sums go."""
    level = [num(1)] * ((pieces + 1) // 2)
    while len(level) > 1:
        joined = [("+", one, other) for one, other in zip(level[::2], level[1::2])]
        if len(level) % 2:
            joined.append(level[-1])
        level = joined
    if pieces % 2 == 0:
        return ("minus", level[0]) if pieces > 0 else None
    return level[0]
