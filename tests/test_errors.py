"""The refusals: what they are made of, and what they stand under."""

import unittest

from chairvote import errors

NAMES = (
    "NoPlace", "Torn", "NotMine", "NoChair", "NoRoll", "Busy", "NoHand", "Away", "Standing",
    "NoLetter", "BadPaper", "NoRules",
)
VALUES = (0, 7, -3, 10 ** 59, None, "word", (1, 2))


class ErrorsTest(unittest.TestCase):
    def test_each_class_is_made_of_one_value_which_is_its_at(self):
        for name in NAMES + ("HallError",):
            for value in VALUES:
                with self.subTest(name=name, value=value):
                    self.assertEqual(getattr(errors, name)(value).at, value)

    def test_none_is_made_of_no_value_or_of_two(self):
        for name in NAMES + ("HallError",):
            with self.subTest(name=name):
                with self.assertRaises(TypeError):
                    getattr(errors, name)()
                with self.assertRaises(TypeError):
                    getattr(errors, name)(1, 2)

    def test_each_stands_under_hall_error_and_so_under_value_error(self):
        self.assertTrue(issubclass(errors.HallError, ValueError))
        for name in NAMES:
            with self.subTest(name=name):
                self.assertTrue(issubclass(getattr(errors, name), errors.HallError))

    def test_none_stands_under_another_one(self):
        for name in NAMES:
            for other in NAMES:
                if name != other:
                    with self.subTest(name=name, other=other):
                        self.assertFalse(issubclass(getattr(errors, name), getattr(errors, other)))

    def test_each_is_caught_by_its_own_name_with_its_value(self):
        for name in NAMES:
            one = getattr(errors, name)
            with self.subTest(name=name):
                with self.assertRaises(one) as caught:
                    raise one(12)
                self.assertEqual(caught.exception.at, 12)


if __name__ == "__main__":
    unittest.main()
