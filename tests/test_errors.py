"""The refusals of the interface."""

import unittest

from sightstone import errors

REFUSALS = [
    "BadBlock", "BadDirection", "BadStone", "BadPicture", "BadName", "BadSpot", "BadSign", "Taken",
    "Unknown", "TooMany", "NoPlace", "NoGrain", "NotBarred", "Contrary", "Unsaid", "NotCarved",
    "NothingBack", "NothingAgain", "BadPage",
]


class Errors(unittest.TestCase):
    def test_sight_error_stands_straight_under_value_error(self):
        self.assertEqual(errors.SightError.__bases__, (ValueError,))

    def test_each_refusal_stands_straight_under_sight_error(self):
        for name in REFUSALS:
            with self.subTest(name):
                refusal = getattr(errors, name)
                self.assertEqual(refusal.__bases__, (errors.SightError,))
                self.assertEqual(refusal.__name__, name)

    def test_no_refusal_is_another_one(self):
        for name in REFUSALS:
            for other in REFUSALS:
                with self.subTest(name=name, other=other):
                    is_below = issubclass(getattr(errors, name), getattr(errors, other))
                    self.assertEqual(is_below, name == other)

    def test_each_refusal_can_be_raised_and_told_apart(self):
        for name in REFUSALS:
            with self.subTest(name):
                with self.assertRaises(errors.SightError) as held:
                    raise getattr(errors, name)("why")
                self.assertEqual(type(held.exception).__name__, name)
                self.assertIsInstance(held.exception, ValueError)
                self.assertEqual(str(held.exception), "why")


if __name__ == "__main__":
    unittest.main()
