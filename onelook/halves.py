"""Sums by halves: tallies of worths, the halves of a list of them, and stretches covered by halves."""

from onelook.errors import BadCount
from onelook.worths import bounded, fault, is_fault

MOST_WORTHS = 99


# The sum, the count, the least and the greatest of the numbers, and the first fault.
def tally_of(worths):
    numbers = [worth for worth in worths if isinstance(worth, int)]
    faults = [worth for worth in worths if is_fault(worth)]
    least = min(numbers) if numbers else None
    greatest = max(numbers) if numbers else None
    return (sum(numbers), len(numbers), least, greatest, faults[0] if faults else None)


def put_together(one, other):
    # Of two that are there the least or the greatest counts, of two faults the first one.
    least = min([number for number in (one[2], other[2]) if number is not None], default=None)
    greatest = max([number for number in (one[3], other[3]) if number is not None], default=None)
    first_fault = other[4] if one[4] is None else one[4]
    return (one[0] + other[0], one[1] + other[1], least, greatest, first_fault)


def told_by(word, tally):
    if tally[4] is not None:
        return tally[4]
    if word == "sum":
        return bounded(tally[0])
    if word == "count":
        return tally[1]
    number = tally[2] if word == "least" else tally[3]
    return fault("none") if number is None else bounded(number)


def made_halves(worths):
    check_many(len(worths))
    halves = {}
    # A node's halves stand behind it: going back they are there first.
    for node in reversed(nodes_under((0, len(worths)))):
        halves[node] = tally_of([worths[node[0]]]) if is_single(node) else joined_halves(halves, node)
    return halves


def check_many(many):
    if not 1 <= many <= MOST_WORTHS:
        raise BadCount("not 1 to 99 worths")


def is_single(node):
    return node[1] - node[0] == 1


def halves_of(node):
    middle = (node[0] + node[1]) // 2
    return [(node[0], middle), (middle, node[1])]


def joined_halves(halves, node):
    parts = halves_of(node)
    return put_together(halves[parts[0]], halves[parts[1]])


def nodes_under(whole):
    nodes = []
    level = [whole]
    while level:
        nodes.extend(level)
        level = level_under(level)
    return nodes


def level_under(level):
    below = []
    for node in level:
        if not is_single(node):
            below.extend(halves_of(node))
    return below


def cover(many, low, high):
    check_many(many)
    if not 0 <= low < high <= many:
        raise BadCount("no stretch of the worths")
    return covering((0, many), low, high)


def covering(node, low, high):
    if high <= node[0] or node[1] <= low:
        return []
    if low <= node[0] and node[1] <= high:
        return [node]
    parts = halves_of(node)
    return covering(parts[0], low, high) + covering(parts[1], low, high)


def many_in(halves):
    return max([node[1] for node in halves], default=0)


def stretch_tally(halves, low, high):
    tally = tally_of([])
    for node in cover(many_in(halves), low, high):
        tally = put_together(tally, halves[node])
    return tally


def with_worth(halves, number, worth):
    many = many_in(halves)
    if not 0 <= number < many:
        raise BadCount("no number of a worth")
    nodes = nodes_down_to((0, many), number)
    turned = dict(halves)
    for node in reversed(nodes):
        turned[node] = tally_of([worth]) if is_single(node) else joined_halves(turned, node)
    return (turned, nodes)


def nodes_down_to(whole, number):
    nodes = [whole]
    while not is_single(nodes[-1]):
        parts = halves_of(nodes[-1])
        nodes.append(parts[0] if number < parts[0][1] else parts[1])
    return nodes
