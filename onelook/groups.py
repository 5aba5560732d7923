"""Groups of a table's rows, sums by groups, sums kept for a further table, and tables paired."""

from onelook.errors import BadTable
from onelook.tables import column_of, order_key
from onelook.worths import gathered, same_worth


def groups_by(table, head):
    groups = {}
    for number, worth in enumerate(column_of(table, head)):
        groups.setdefault(worth, []).append(number)
    return [(worth, groups[worth]) for worth in sorted(groups, key=order_key)]


def sums_by(table, head, word, other):
    return [(worth, gathered(word, worths)) for worth, worths in worths_by_groups(table, head, other).items()]


# For each group, in the order of worths, what its rows have in the other column, row by row.
def worths_by_groups(table, head, other):
    groups = groups_by(table, head)
    column = column_of(table, other)
    told = {}
    for worth, numbers in groups:
        told[worth] = [column[number] for number in numbers]
    return told


def sums_on(table, sums, further, head, word, other):
    if table[0] != further[0]:
        raise BadTable("the heads are not the same")
    before = worths_by_groups(table, head, other)
    kept = dict(sums)
    sums_now = []
    turned = []
    for worth, worths in worths_by_groups(further, head, other).items():
        if before.get(worth) == worths:
            sums_now.append((worth, kept[worth]))
        else:
            sums_now.append((worth, gathered(word, worths)))
            turned.append(worth)
    return (sums_now, turned)


def paired_rows(table, head, further, other):
    column = column_of(table, head)
    others = column_of(further, other)
    pairs = []
    for number, worth in enumerate(column):
        if worth is not None:
            pairs.extend([(number, beside) for beside, told in enumerate(others) if is_same(worth, told)])
    return pairs


# By = alone a blank would be the same as 0 and as the empty text.
def is_same(worth, told):
    return told is not None and same_worth(worth, told)
