import unittest

from dampfield import errors

NAMES = ["BadView", "BadLaying", "NoCell", "TooGreat", "Impossible", "NotOpen", "Over"]


class Errors(unittest.TestCase):
    def test_field_error_stands_under_value_error(self):
        self.assertEqual(errors.FieldError.__bases__, (ValueError,))

    def test_each_stands_under_field_error_alone(self):
        for name in NAMES:
            with self.subTest(name=name):
                self.assertEqual(getattr(errors, name).__bases__, (errors.FieldError,))

    def test_they_are_classes_of_their_own(self):
        kinds = {getattr(errors, name) for name in NAMES}
        self.assertEqual(len(kinds), 7)
        self.assertEqual(sorted(kind.__name__ for kind in kinds), sorted(NAMES))

    def test_each_can_be_raised_and_taken_as_a_value_error(self):
        for name in NAMES + ["FieldError"]:
            with self.subTest(name=name):
                with self.assertRaises(ValueError):
                    raise getattr(errors, name)("words")


if __name__ == "__main__":
    unittest.main()
