"""Promises 3.1, 3.2 and 3.4: worths, and what the words of formulas make of them."""

import unittest

from onelook.worths import gathered, is_fault, paired, same_worth, single

KIND, GREAT, NOUGHT, NONE, LOST = [("fault", word) for word in ("kind", "great", "nought", "none", "lost")]
FAULTS = (KIND, GREAT, NOUGHT, NONE, LOST)
TOP = 10 ** 60
PLAIN = (0, 1, -1, 7, TOP, -TOP, "", "a", "b", "0", "7", None)
ALL_OPS = ("+", "-", "*", "/", "&", "<", "=", "rest")
NUMBER_OPS = ("+", "-", "*", "/", "rest")


class Checks(unittest.TestCase):
    def told(self, rows):
        for op, one, other, worth in rows:
            answer = paired(op, one, other)
            self.assertEqual((type(answer), answer), (type(worth), worth), (op, one, other))


class Faults(Checks):
    def test_is_fault(self):
        for worth in FAULTS:
            self.assertIs(is_fault(worth), True)
        for worth in PLAIN + ("fault", "kind"):
            self.assertIs(is_fault(worth), False)

    def test_a_fault_on_either_side_is_the_worth(self):
        for op in ALL_OPS:
            for fault in FAULTS:
                for worth in PLAIN:
                    self.told([(op, fault, worth, fault), (op, worth, fault, fault)])

    def test_of_two_faults_the_first(self):
        for op in ALL_OPS:
            for fault in FAULTS:
                for other in FAULTS:
                    self.told([(op, fault, other, fault)])

    def test_of_one_part(self):
        for word in ("minus", "not"):
            for fault in FAULTS:
                self.assertEqual(single(word, fault), fault)


class Single(unittest.TestCase):
    def test_minus(self):
        for one, worth in ((0, 0), (5, -5), (-5, 5), (TOP, -TOP), (-TOP, TOP), (None, 0), ("", KIND), ("5", KIND)):
            self.assertEqual(single("minus", one), worth)

    def test_not(self):
        for one, worth in ((0, 1), (1, 0), (-1, 0), (TOP, 0), (None, 1), ("", KIND), ("0", KIND), ("a", KIND)):
            self.assertEqual(single("not", one), worth)


class Numbers(Checks):
    def test_reckoned(self):
        self.told([
            ("+", 2, 3, 5), ("+", -2, 2, 0), ("-", 2, 3, -1), ("-", -2, -3, 1), ("*", -4, 3, -12), ("*", 0, -3, 0),
            ("/", 7, 2, 3), ("/", 6, 2, 3), ("/", 0, 5, 0), ("rest", 7, 2, 1), ("rest", 6, 2, 0), ("rest", 0, 5, 0),
        ])

    def test_quotients_and_rests_below_nought(self):
        self.told([
            ("/", -7, 2, -4), ("/", 7, -2, -4), ("/", -7, -2, 3), ("/", -6, 2, -3), ("/", -1, 5, -1), ("/", 1, -5, -1),
            ("rest", -7, 2, 1), ("rest", 7, -2, -1), ("rest", -7, -2, -1), ("rest", -6, 2, 0), ("rest", -1, 5, 4),
            ("rest", 1, -5, -4),
        ])
        for number in range(-20, 21):
            for other in (-7, -3, -1, 1, 2, 5):
                quotient, rest = paired("/", number, other), paired("rest", number, other)
                self.assertEqual(quotient * other + rest, number)
                # The quotient is the greatest whole number that is no greater than the broken one.
                sign = 1 if other > 0 else -1
                self.assertLessEqual(quotient * other * sign, number * sign)
                self.assertGreater((quotient + 1) * other * sign, number * sign)

    def test_by_nought(self):
        for number in (0, 1, -1, TOP, None):
            for other in (0, None):
                self.told([("/", number, other, NOUGHT), ("rest", number, other, NOUGHT)])

    def test_blank_is_nought(self):
        self.told([
            ("+", None, 3, 3), ("+", 3, None, 3), ("+", None, None, 0), ("-", None, 3, -3), ("-", 3, None, 3),
            ("*", None, 3, 0), ("*", 3, None, 0), ("/", None, 3, 0), ("rest", None, 3, 0),
        ])

    def test_a_text_is_no_number(self):
        for op in NUMBER_OPS:
            for worth in PLAIN:
                for text in ("", "a", "7"):
                    self.told([(op, text, worth, KIND), (op, worth, text, KIND)])

    def test_kind_goes_ahead_of_nought(self):
        for op in ("/", "rest"):
            self.told([(op, "a", 0, KIND), (op, "a", None, KIND), (op, 0, "a", KIND)])

    def test_bounds(self):
        self.told([
            ("+", TOP, 0, TOP), ("+", TOP - 1, 1, TOP), ("+", TOP, 1, GREAT), ("+", -TOP, -1, GREAT), ("-", -TOP, 0, -TOP),
            ("-", -TOP, 1, GREAT), ("-", TOP, -1, GREAT), ("-", TOP, TOP, 0), ("*", 10 ** 30, 10 ** 30, TOP),
            ("*", -10 ** 30, 10 ** 30, -TOP), ("*", 10 ** 30, 10 ** 30 + 1, GREAT), ("*", TOP, TOP, GREAT),
            ("*", -TOP, 2, GREAT), ("/", TOP, -1, -TOP), ("/", -TOP, -1, TOP), ("rest", TOP, TOP, 0), ("rest", -1, TOP, TOP - 1),
        ])


class Compared(Checks):
    def test_less(self):
        self.told([
            ("<", 1, 2, 1), ("<", 2, 1, 0), ("<", 2, 2, 0), ("<", -1, 0, 1), ("<", -TOP, TOP, 1), ("<", 9, 10, 1),
            ("<", "a", "b", 1), ("<", "b", "a", 0), ("<", "a", "a", 0), ("<", "", "a", 1), ("<", "9", "10", 0), ("<", "Z", "a", 1),
            ("<", "a", "aa", 1), ("<", None, 1, 1), ("<", None, 0, 0), ("<", None, -1, 0), ("<", -1, None, 1), ("<", 1, None, 0),
            ("<", None, "a", 1), ("<", None, "", 0), ("<", "a", None, 0), ("<", "", None, 0), ("<", None, None, 0),
        ])

    def test_a_number_beside_a_text(self):
        self.told([("<", 1, "a", KIND), ("<", "a", 1, KIND), ("<", 0, "", KIND), ("<", "", 0, KIND), ("<", 1, "1", KIND)])

    def test_alike(self):
        rows = [
            (1, 1, 1), (1, 2, 0), (0, 0, 1), (-TOP, -TOP, 1), ("a", "a", 1), ("a", "A", 0), ("", "", 1), ("1", 1, 0), (1, "1", 0),
            ("", 0, 0), (0, "", 0), (None, None, 1), (None, 0, 1), (0, None, 1), (None, "", 1), ("", None, 1), (None, 1, 0),
            (1, None, 0), (None, "a", 0), ("a", None, 0), ("0", None, 0), (None, "0", 0),
        ]
        for one, other, worth in rows:
            self.told([("=", one, other, worth)])
            self.assertIs(same_worth(one, other), worth == 1, (one, other))

    def test_a_fault_is_the_same_as_nothing(self):
        for fault in FAULTS:
            for other in FAULTS + PLAIN:
                self.assertIs(same_worth(fault, other), False)
                self.assertIs(same_worth(other, fault), False)


class Joined(Checks):
    def test_joined(self):
        self.told([
            ("&", "a", "b", "ab"), ("&", "", "", ""), ("&", "a", None, "a"), ("&", None, "a", "a"), ("&", None, None, ""),
            ("&", 1, 2, "12"), ("&", -1, -2, "-1-2"), ("&", 0, None, "0"), ("&", "a", 0, "a0"), ("&", TOP, "", "1" + "0" * 60),
            ("&", -TOP, "a", "-1" + "0" * 60 + "a"),
        ])

    def test_bounds(self):
        self.told([
            ("&", "a" * 100, "b" * 100, "a" * 100 + "b" * 100), ("&", "a" * 200, None, "a" * 200), ("&", "", "a" * 200, "a" * 200),
            ("&", "a" * 100, "b" * 101, GREAT), ("&", "a" * 200, "b", GREAT), ("&", "a" * 200, 0, GREAT), ("&", 0, "a" * 200, GREAT),
            ("&", "a" * 198, -1, "a" * 198 + "-1"), ("&", "a" * 199, -1, GREAT),
        ])


class Gathered(unittest.TestCase):
    def test_each_word(self):
        worths = [3, None, "a", -5, "9", 3, 0]
        for word, worth in (("sum", 1), ("count", 4), ("least", -5), ("greatest", 3)):
            self.assertEqual(gathered(word, worths), worth)
            self.assertEqual(gathered(word, tuple(worths)), worth)
        self.assertEqual(worths, [3, None, "a", -5, "9", 3, 0])

    def test_of_no_numbers(self):
        for worths in ([], [None], ["a", "", "7"], [None, "a", None]):
            for word, worth in (("sum", 0), ("count", 0), ("least", NONE), ("greatest", NONE)):
                self.assertEqual(gathered(word, worths), worth)

    def test_of_one_number(self):
        for word, worth in (("sum", 0), ("count", 1), ("least", 0), ("greatest", 0)):
            self.assertEqual(gathered(word, [None, 0, "a"]), worth)

    def test_the_first_fault(self):
        for word in ("sum", "count", "least", "greatest"):
            for fault in FAULTS:
                for other in FAULTS:
                    self.assertEqual(gathered(word, [1, "a", fault, 2, other, None]), fault)
                self.assertEqual(gathered(word, [fault]), fault)
                self.assertEqual(gathered(word, [TOP, TOP, fault]), fault)

    def test_bounds(self):
        self.assertEqual(gathered("sum", [TOP, 1, -1]), TOP)
        self.assertEqual(gathered("sum", [-TOP, -TOP, TOP]), -TOP)
        self.assertEqual(gathered("sum", [TOP, TOP, -TOP, -TOP]), 0)
        self.assertEqual(gathered("sum", [TOP, 1]), GREAT)
        self.assertEqual(gathered("sum", [-TOP, None, -1]), GREAT)
        for word, worth in (("count", 2), ("least", TOP), ("greatest", TOP)):
            self.assertEqual(gathered(word, [TOP, TOP]), worth)


if __name__ == "__main__":
    unittest.main()
