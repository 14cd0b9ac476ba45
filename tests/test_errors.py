"""Point 3: the classes of refusals."""

import unittest

from pilenets import errors

NAMES = [
    "NoNet", "NoRow", "NoMove", "NoPlace", "NoDoing", "TooMany",
    "NoNumber", "NoMark", "NoText", "NoForm", "NoneYet",
]


class Refusals(unittest.TestCase):

    def classes(self):
        return [getattr(errors, name) for name in NAMES]

    def test_pile_error_stands_straight_under_value_error(self):
        self.assertEqual(errors.PileError.__bases__, (ValueError,))

    def test_each_stands_straight_under_pile_error(self):
        for kind in self.classes():
            self.assertEqual(kind.__bases__, (errors.PileError,), kind)

    def test_none_stands_under_another_one(self):
        for one in self.classes():
            for other in self.classes():
                self.assertEqual(issubclass(one, other), one is other, (one, other))

    def test_each_is_a_class_of_its_own_under_its_name(self):
        self.assertEqual([kind.__name__ for kind in self.classes()], NAMES)
        for kind in self.classes() + [errors.PileError]:
            self.assertEqual(kind.__module__, "pilenets.errors")
        self.assertEqual(len(set(self.classes())), 11)

    def test_each_is_raised_and_caught_as_a_refusal(self):
        for kind in self.classes():
            with self.assertRaises(errors.PileError) as caught:
                raise kind("why")
            self.assertIs(caught.exception.__class__, kind)


if __name__ == "__main__":
    unittest.main()
