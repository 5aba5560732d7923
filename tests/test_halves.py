"""Promises 12.1 to 12.4: tallies, halves, covers, and a worth put in another one's place."""

import copy
import itertools
import random
import unittest

from helper import RefusalChecks
from onelook.halves import cover, made_halves, put_together, stretch_tally, tally_of, told_by, with_worth
from onelook.worths import gathered

GREAT = 10 ** 60
WORDS = ["sum", "count", "least", "greatest"]
KIND, LOST = ("fault", "kind"), ("fault", "lost")
POOL = [0, 1, -1, 7, -7, GREAT, -GREAT, "", "a", "9", None, None]
NOTHING = (0, 0, None, None, None)


def some_worths(chance, many):
    pool = POOL + ([KIND, LOST] if chance.randrange(3) == 0 else [])
    return [chance.choice(pool) for _ in range(many)]


def slow_tally(worths):
    total, count, least, greatest, first = 0, 0, None, None, None
    for worth in worths:
        if isinstance(worth, tuple):
            first = first or worth
        elif isinstance(worth, int):
            total, count = total + worth, count + 1
            least = worth if least is None or worth < least else least
            greatest = worth if greatest is None or worth > greatest else greatest
    return (total, count, least, greatest, first)


def slow_nodes(low, high):
    """The node with the depth of halvings by which it comes, and those below it."""
    def walk(low, high, depth):
        found[(low, high)] = depth
        if high - low >= 2:
            middle = (low + high) // 2
            walk(low, middle, depth + 1)
            walk(middle, high, depth + 1)

    found = {}
    walk(low, high, 0)
    return found


def fewest(nodes, low, high):
    """How many nodes at the least are the stretch, end to end, and in how many ways so few are."""
    best = {low: (0, 1)}
    for spot in range(low + 1, high + 1):
        ends = [best[node[0]] for node in nodes if node[1] == spot and node[0] in best]
        least = min(count for count, _ in ends)
        best[spot] = (least + 1, sum(ways for count, ways in ends if count == least))
    return best[high]


class Tally(unittest.TestCase):
    def test_no_worth_and_no_number(self):
        self.assertEqual(tally_of([]), NOTHING)
        self.assertEqual(tally_of(()), NOTHING)
        self.assertEqual(tally_of([None, "", "5", "a"]), NOTHING)

    def test_numbers_of_any_size(self):
        self.assertEqual(tally_of([0]), (0, 1, 0, 0, None))
        self.assertEqual(tally_of([3, -4, 5]), (4, 3, -4, 5, None))
        self.assertEqual(tally_of((5, 5)), (10, 2, 5, 5, None))
        self.assertEqual(tally_of([GREAT] * 99), (99 * GREAT, 99, GREAT, GREAT, None))
        self.assertEqual(tally_of([GREAT * GREAT, -GREAT]), (GREAT * GREAT - GREAT, 2, -GREAT, GREAT * GREAT, None))

    def test_texts_and_blanks_are_passed_over(self):
        self.assertEqual(tally_of([None, 3, "9", 4, ""]), (7, 2, 3, 4, None))

    def test_faults(self):
        self.assertEqual(tally_of([KIND]), (0, 0, None, None, KIND))
        # The numbers count as if no fault were there, ahead of it and behind it.
        self.assertEqual(tally_of([3, LOST, 5, KIND, 4]), (12, 3, 3, 5, LOST))
        self.assertEqual(tally_of([KIND, 1, LOST]), (1, 1, 1, 1, KIND))

    def test_kinds_and_nothing_changed(self):
        worths = [3, None, KIND]
        self.assertIsInstance(tally_of(worths), tuple)
        self.assertEqual(worths, [3, None, KIND])

    def test_put_together(self):
        lists = [[], [None], [0], [3], [-3, 5], ["a", 7], [KIND], [LOST, 4], [2, KIND, LOST], [GREAT, GREAT]]
        for one, other in itertools.product(lists, repeat=2):
            told = put_together(tally_of(one), tally_of(other))
            self.assertEqual(told, slow_tally(one + other))
            self.assertIsInstance(told, tuple)

    def test_by_chance(self):
        chance = random.Random(141)
        for _ in range(300):
            one, other = some_worths(chance, chance.randrange(9)), some_worths(chance, chance.randrange(9))
            self.assertEqual(tally_of(one), slow_tally(one))
            self.assertEqual(put_together(tally_of(one), tally_of(other)), tally_of(one + other))

    def test_told_by(self):
        self.assertEqual([told_by(word, NOTHING) for word in WORDS], [0, 0, ("fault", "none"), ("fault", "none")])
        self.assertEqual([told_by(word, tally_of([3, -4, "x"])) for word in WORDS], [-1, 2, -4, 3])
        self.assertEqual([told_by(word, tally_of([3, LOST, KIND])) for word in WORDS], [LOST] * 4)
        self.assertEqual([told_by(word, tally_of([0, None])) for word in WORDS], [0, 1, 0, 0])

    def test_told_by_beyond_the_bounds(self):
        great = ("fault", "great")
        for worths, due in [([GREAT, 1], great), ([GREAT, 1, -1], GREAT), ([-GREAT, -1], great), ([-GREAT, -1, 2], 1 - GREAT),
                            ([GREAT, 1, KIND], KIND), ([GREAT], GREAT)]:
            self.assertEqual(told_by("sum", tally_of(worths)), due)
        self.assertEqual(told_by("count", tally_of([GREAT, 1])), 2)
        self.assertEqual(told_by("greatest", tally_of([GREAT, 1])), GREAT)

    def test_told_by_is_what_gathered_tells(self):
        chance = random.Random(142)
        for _ in range(400):
            worths = some_worths(chance, chance.choice([0, 1, 2, 5, 20, 99]))
            for word in WORDS:
                self.assertEqual(told_by(word, tally_of(worths)), gathered(word, worths))


class Halves(unittest.TestCase, RefusalChecks):
    def test_few(self):
        self.assertEqual(made_halves([5]), {(0, 1): (5, 1, 5, 5, None)})
        self.assertEqual(made_halves((5, None)), {
            (0, 2): (5, 1, 5, 5, None), (0, 1): (5, 1, 5, 5, None), (1, 2): NOTHING})
        self.assertEqual(made_halves([1, KIND, 4]), {
            (0, 3): (5, 2, 1, 4, KIND), (0, 1): (1, 1, 1, 1, None), (1, 3): (4, 1, 4, 4, KIND),
            (1, 2): (0, 0, None, None, KIND), (2, 3): (4, 1, 4, 4, None)})

    def test_just_the_nodes_each_with_its_tally(self):
        chance = random.Random(143)
        for many in [1, 2, 3, 4, 5, 7, 8, 31, 63, 64, 65, 98, 99]:
            worths = some_worths(chance, many)
            kept = list(worths)
            told = made_halves(worths)
            self.assertEqual(sorted(told), sorted(slow_nodes(0, many)))
            self.assertEqual(len(told), 2 * many - 1)
            for (low, high), tally in told.items():
                self.assertEqual(tally, slow_tally(worths[low:high]))
            self.assertEqual(worths, kept)
            self.assertEqual(made_halves(worths), told)

    def test_bad_count(self):
        for many in [0, 100, 101, 300]:
            self.refused("BadCount", made_halves, [1] * many)
            self.refused("BadCount", made_halves, (KIND,) * many)

    def test_the_dict_is_the_askers_own(self):
        worths = [1, 2, 3]
        made_halves(worths).clear()
        self.assertEqual(len(made_halves(worths)), 5)


class Cover(unittest.TestCase, RefusalChecks):
    def test_plain_ones(self):
        self.assertEqual(cover(1, 0, 1), [(0, 1)])
        self.assertEqual(cover(8, 0, 8), [(0, 8)])
        self.assertEqual(cover(8, 1, 7), [(1, 2), (2, 4), (4, 6), (6, 7)])
        self.assertEqual(cover(5, 0, 4), [(0, 2), (2, 3), (3, 4)])
        self.assertEqual(cover(3, 1, 3), [(1, 3)])
        self.assertEqual(cover(3, 0, 2), [(0, 1), (1, 2)])

    def assert_cover(self, many, nodes, low, high):
        told = cover(many, low, high)
        self.assertTrue(all(node in nodes for node in told))
        # From left to right, end to end: so it is the stretch, and none is in another one.
        self.assertEqual((told[0][0], told[-1][1]), (low, high))
        for one, other in zip(told, told[1:]):
            self.assertEqual(one[1], other[0])
        self.assertEqual((len(told), 1), fewest(nodes, low, high))
        depths = [nodes[node] for node in told]
        self.assertLessEqual(max(depths.count(depth) for depth in depths), 2)

    def test_each_stretch_of_some_counts(self):
        for many in list(range(1, 20)) + [32, 33]:
            nodes = slow_nodes(0, many)
            for low, high in itertools.combinations(range(many + 1), 2):
                self.assert_cover(many, nodes, low, high)

    def test_stretches_of_great_counts(self):
        chance = random.Random(144)
        for many in [64, 97, 98, 99]:
            nodes = slow_nodes(0, many)
            for _ in range(150):
                low, high = sorted(chance.sample(range(many + 1), 2))
                self.assert_cover(many, nodes, low, high)

    def test_bad_counts(self):
        for many in [0, -1, 100, 101, GREAT, -GREAT]:
            self.refused("BadCount", cover, many, 0, 1)
            self.refused("BadCount", cover, many, 0, many)
        for low, high in [(-1, 3), (0, 0), (3, 3), (5, 5), (3, 2), (0, 6), (4, 6), (5, 6), (-2, -1), (6, 7), (0, GREAT)]:
            self.refused("BadCount", cover, 5, low, high)
            self.refused("BadCount", stretch_tally, made_halves([1, 2, 3, 4, 5]), low, high)
        self.assertEqual(cover(99, 98, 99), [(98, 99)])
        self.assertEqual(cover(99, 0, 99), [(0, 99)])

    def test_stretch_tally(self):
        chance = random.Random(145)
        for many in [1, 2, 3, 5, 8, 13, 21, 98, 99]:
            worths = some_worths(chance, many)
            halves = made_halves(worths)
            kept = copy.deepcopy(halves)
            stretches = list(itertools.combinations(range(many + 1), 2))
            for low, high in chance.sample(stretches, min(len(stretches), 120)):
                told = stretch_tally(halves, low, high)
                self.assertEqual(told, slow_tally(worths[low:high]))
                for word in WORDS:
                    self.assertEqual(told_by(word, told), gathered(word, worths[low:high]))
            self.assertEqual(halves, kept)

    def test_the_first_fault_of_a_stretch(self):
        halves = made_halves([1, LOST, 2, KIND, 3])
        self.assertEqual(stretch_tally(halves, 0, 5)[4], LOST)
        self.assertEqual(stretch_tally(halves, 2, 5), (5, 2, 2, 3, KIND))
        self.assertEqual(stretch_tally(halves, 4, 5), (3, 1, 3, 3, None))

    def test_the_list_is_the_askers_own(self):
        cover(8, 1, 7).clear()
        self.assertEqual(len(cover(8, 1, 7)), 4)


class WithWorth(unittest.TestCase, RefusalChecks):
    def test_few(self):
        told = with_worth(made_halves([1, 2, 3]), 1, 9)
        self.assertIsInstance(told, tuple)
        self.assertEqual(told, (made_halves([1, 9, 3]), [(0, 3), (1, 3), (1, 2)]))
        self.assertEqual(with_worth(made_halves([1]), 0, KIND), (made_halves([KIND]), [(0, 1)]))
        # The nodes are told also where their tallies stay alike.
        self.assertEqual(with_worth(made_halves([1, 2]), 0, 1), (made_halves([1, 2]), [(0, 2), (0, 1)]))
        self.assertEqual(with_worth(made_halves([None, 2]), 0, "x"), (made_halves([None, 2]), [(0, 2), (0, 1)]))

    def test_first_last_and_middle(self):
        chance = random.Random(146)
        for many in [1, 2, 3, 5, 8, 64, 65, 98, 99]:
            worths = some_worths(chance, many)
            halves = made_halves(worths)
            kept = copy.deepcopy(halves)
            for number in {0, many - 1, many // 2, chance.randrange(many)}:
                worth = chance.choice(POOL + [KIND, LOST])
                behind, nodes = with_worth(halves, number, worth)
                self.assertEqual(behind, made_halves(worths[:number] + [worth] + worths[number + 1:]))
                self.assertEqual(set(nodes), {node for node in halves if node[0] <= number < node[1]})
                self.assertEqual(nodes, sorted(nodes, key=slow_nodes(0, many).get))
                self.assertEqual((nodes[0], nodes[-1]), ((0, many), (number, number + 1)))
                self.assertLessEqual(len(nodes), 8)
                self.assertEqual(halves, kept)

    def test_eight_at_most(self):
        halves = made_halves([1] * 99)
        self.assertEqual(max(len(with_worth(halves, number, 5)[1]) for number in range(99)), 8)

    def test_worths_put_in_a_row(self):
        chance = random.Random(147)
        worths = some_worths(chance, 20)
        halves = made_halves(worths)
        for _ in range(60):
            number = chance.randrange(20)
            worths[number] = chance.choice(POOL + [KIND])
            halves = with_worth(halves, number, worths[number])[0]
            self.assertEqual(halves, made_halves(worths))

    def test_bad_count(self):
        for many in [1, 2, 5, 99]:
            for number in [-1, many, many + 1, -many, GREAT, -GREAT]:
                self.refused("BadCount", with_worth, made_halves([1] * many), number, 5)

    def test_what_is_told_is_the_askers_own(self):
        halves = made_halves([1, 2, 3])
        behind, nodes = with_worth(halves, 0, 1)
        self.assertIsNot(behind, halves)
        behind.clear()
        nodes.clear()
        self.assertEqual(with_worth(halves, 0, 1), (made_halves([1, 2, 3]), [(0, 3), (0, 1)]))


if __name__ == "__main__":
    unittest.main()
