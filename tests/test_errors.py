"""Promise 0.4: the refusals, each of a class of its own."""

import unittest

from onelook import errors

NAMES = (
    "BadPlace", "BadArea", "BadText", "BadFormula", "BadContent", "Full", "NoCell", "NotWaiting",
    "BadCount", "NoRoom", "BadTable", "NoTable", "NoColumn", "NoDeed", "Clash",
)


class Refusals(unittest.TestCase):
    def test_there_are_fifteen_and_no_others(self):
        found = [name for name, thing in vars(errors).items()
                 if isinstance(thing, type) and name != "SheetError"]
        self.assertEqual(sorted(found), sorted(NAMES))
        self.assertEqual(len(NAMES), 15)

    def test_the_root_stands_under_value_error(self):
        self.assertEqual(errors.SheetError.__bases__, (ValueError,))

    def test_each_stands_straight_under_the_root(self):
        for name in NAMES:
            self.assertEqual(getattr(errors, name).__bases__, (errors.SheetError,), name)

    def test_each_is_caught_as_its_own_and_as_no_other(self):
        for name in NAMES:
            raised = getattr(errors, name)("told")
            for other in NAMES:
                caught = False
                try:
                    raise raised
                except getattr(errors, other):
                    caught = True
                except ValueError:
                    pass
                self.assertEqual(caught, name == other, (name, other))

    def test_each_is_caught_as_the_root_and_as_value_error(self):
        for name in NAMES:
            for root in (errors.SheetError, ValueError):
                with self.assertRaises(root):
                    raise getattr(errors, name)("told")

    def test_each_is_made_of_a_text(self):
        for name in NAMES:
            self.assertEqual(str(getattr(errors, name)("some words")), "some words")

    def test_each_tells_its_name(self):
        for name in NAMES:
            self.assertEqual(getattr(errors, name)("told").class_name(), name)


if __name__ == "__main__":
    unittest.main()
