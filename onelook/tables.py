"""Tables: pairs of heads and rows, made of areas, ordered, searched, taken from and put."""

from onelook.areas import area_places, is_area
from onelook.errors import BadCount, BadTable, NoColumn, NoRoom
from onelook.places import made_place
from onelook.sheets import with_cells
from onelook.worths import is_fault, paired

MOST_ROWS = 98


def table_of(worths, waiting, area):
    places = area_places(area)
    told = [worths.get(place) for place in places]
    if any([place in waiting for place in places]) or any([is_fault(worth) for worth in told]):
        raise BadTable("a cell that waits or is a fault")
    wide = area[3] - area[1] + 1
    lines = [tuple(told[start:start + wide]) for start in range(0, len(told), wide)]
    if not are_heads(lines[0]):
        raise BadTable("heads that are not unlike texts")
    return (lines[0], tuple(lines[1:]))


def are_heads(line):
    return all([isinstance(worth, str) and worth != "" for worth in line]) and len(set(line)) == len(line)


def column_of(table, head):
    if head not in table[0]:
        raise NoColumn("no head of the table")
    number = list(table[0]).index(head)
    return [row[number] for row in table[1]]


def fitting(table, head, op, key):
    column = column_of(table, head)
    return [number for number, worth in enumerate(column) if fits(worth, op, key)]


def fits(worth, op, key):
    if worth is None:
        return False
    return paired("<", key, worth) == 1 if op == ">" else paired(op, worth, key) == 1


# Texts and numbers are never asked which is less: what is of one kind alone is set beside one another.
def order_key(worth):
    if worth is None:
        return (2, 0)
    return (1, worth) if isinstance(worth, str) else (0, worth)


def order_by(table, by):
    columns = columns_by(table, by)
    numbers = list(range(len(table[1])))
    # From the last pair to the first: rows alike at one stay as the pairs behind it have put them.
    for keys, way in reversed(columns):
        numbers = ordered(numbers, keys, way)
    return numbers


def ordered(numbers, keys, way):
    if way == 1:
        return sorted(numbers, key=lambda number: keys[number])
    return sorted(numbers, key=lambda number: keys[number], reverse=True)


# For each pair the order keys of its column, and its way.
def columns_by(table, by):
    return [([order_key(worth) for worth in column_of(table, pair[0])], pair[1]) for pair in by]


def right_order(table, by, numbers):
    columns = columns_by(table, by)
    if sorted(numbers) != list(range(len(table[1]))):
        return False
    return all([goes_ahead(columns, one, other) for one, other in zip(numbers, numbers[1:])])


def goes_ahead(columns, one, other):
    for keys, way in columns:
        if keys[one] != keys[other]:
            return (keys[one] < keys[other]) == (way == 1)
    return one < other


def rows_taken(table, numbers):
    rows = table[1]
    if not all([0 <= number < len(rows) for number in numbers]):
        raise BadCount("no number of a row")
    if len(numbers) > MOST_ROWS:
        raise BadTable("more than 98 rows")
    return (table[0], tuple([rows[number] for number in numbers]))


def put_table(sheet, place, table):
    made = made_place(place[0], place[1])
    lines = [table[0]] + list(table[1])
    area = (made[0], made[1], made[0] + len(lines) - 1, made[1] + len(table[0]) - 1)
    if not is_area(area):
        raise NoRoom("the table would go beyond the sheet, or has more than 300 places")
    worths = []
    for line in lines:
        worths.extend(line)
    return with_cells(sheet, dict(zip(area_places(area), worths)))
