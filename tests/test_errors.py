"""The classes of looksfar.errors."""

import unittest

from looksfar import errors

PLAIN = ["BadTask", "BadAlgorithm", "BadNetwork", "BadReach", "BadEasing", "NoRows", "TooMany"]


class ErrorsTest(unittest.TestCase):

    def test_the_base_class_is_a_value_error(self):
        self.assertEqual(errors.LookError.__bases__, (ValueError,))

    def test_all_others_stand_directly_under_it(self):
        for name in PLAIN + ["BadText"]:
            with self.subTest(name):
                self.assertEqual(getattr(errors, name).__bases__, (errors.LookError,))

    def test_each_is_raised_with_a_message(self):
        for name in PLAIN:
            with self.subTest(name):
                with self.assertRaises(ValueError) as caught:
                    raise getattr(errors, name)("why")
                self.assertEqual(str(caught.exception), "why")

    def test_none_is_another_one(self):
        for name in PLAIN + ["BadText"]:
            for other in PLAIN + ["BadText"]:
                with self.subTest(name, other=other):
                    is_other = issubclass(getattr(errors, name), getattr(errors, other))
                    self.assertEqual(is_other, name == other)

    def test_bad_text_is_made_with_its_place_alone(self):
        for place in (0, 7):
            self.assertEqual(errors.BadText(place).place, place)
        self.assertEqual(errors.BadText(place=3).place, 3)
        with self.assertRaises(TypeError):
            errors.BadText()
        with self.assertRaises(TypeError):
            errors.BadText("why", 3)

    def test_places_of_two_errors_are_their_own(self):
        first, second = errors.BadText(1), errors.BadText(2)
        self.assertEqual((first.place, second.place), (1, 2))


if __name__ == "__main__":
    unittest.main()
