"""The refusals: classes, what they stand under, and their fields."""

import unittest

from slipcatch import errors
from slipcatch.errors import NoHouse, NoMeet, NoRoom, NoRow, NoStand, NoText, SlipError, TooFar

REFUSALS = (NoText, NoHouse, NoMeet, TooFar, NoRow, NoStand, NoRoom)


class ErrorsTest(unittest.TestCase):
    def test_slip_error_stands_straight_under_value_error(self):
        self.assertEqual(SlipError.__bases__, (ValueError,))

    def test_each_refusal_stands_straight_under_slip_error(self):
        for refusal in REFUSALS:
            self.assertEqual(refusal.__bases__, (SlipError,), refusal)

    def test_no_refusal_stands_under_another_one(self):
        for lower in REFUSALS:
            for upper in REFUSALS:
                self.assertEqual(issubclass(lower, upper), lower is upper, (lower, upper))

    def test_there_are_no_other_classes(self):
        classes = [thing for thing in vars(errors).values() if isinstance(thing, type)]
        self.assertEqual(set(classes), set(REFUSALS + (SlipError,)))

    def test_no_house_has_its_fault(self):
        for fault in ("shape", "names", "pass", "stop", "great"):
            self.assertEqual(NoHouse(fault).fault, fault)

    def test_too_far_has_its_number(self):
        for many in (0, 3001, 10 ** 40):
            self.assertEqual(TooFar(many).many, many)

    def test_two_objects_have_each_their_own_field(self):
        first = NoHouse("shape")
        second = NoHouse("names")
        self.assertEqual((first.fault, second.fault), ("shape", "names"))

    def test_each_is_made_of_one_thing_and_can_be_raised(self):
        for refusal in (SlipError, NoText, NoMeet, NoRow, NoStand, NoRoom, NoHouse):
            with self.assertRaises(SlipError) as caught:
                raise refusal("words")
            self.assertIs(caught.exception.__class__, refusal)
            self.assertIn("words", str(caught.exception))
        with self.assertRaises(TooFar):
            raise TooFar(3001)


if __name__ == "__main__":
    unittest.main()
