import unittest

from anewhall import errors

REFUSALS = ("NoName", "NoNumber", "NoRecipe", "Full", "NoPoint", "NoRow")


class ErrorsTest(unittest.TestCase):
    def test_hall_error_is_straight_under_value_error(self):
        self.assertEqual(errors.HallError.__bases__, (ValueError,))

    def test_each_refusal_is_straight_under_hall_error(self):
        for name in REFUSALS:
            with self.subTest(name=name):
                refusal = getattr(errors, name)
                self.assertEqual(refusal.__bases__, (errors.HallError,))
                self.assertEqual(refusal.__name__, name)

    def test_each_refusal_is_taken_by_its_own_class_and_those_above_only(self):
        for name in REFUSALS:
            raised = getattr(errors, name)("why")
            for other in REFUSALS:
                with self.subTest(raised=name, other=other):
                    self.assertEqual(isinstance(raised, getattr(errors, other)), name == other)
            with self.assertRaises(errors.HallError):
                raise raised
            with self.assertRaises(ValueError):
                raise raised


if __name__ == "__main__":
    unittest.main()
