"""The errors: their base class and their fields."""

import unittest

from letterhalls import errors

PLAIN = ["BadHall", "BadKind", "BadNumber", "NotEven", "NoLettering", "NoDoor", "BadText", "BadStep"]
WITH_FIELDS = {
    "BadHouse": ["part"],
    "BadLettering": ["part"],
    "BadGroup": ["index"],
    "BadRow": ["index"],
    "BadFold": ["part"],
    "BadLine": ["line", "word"],
    "TooMany": ["most"],
}


class ErrorTests(unittest.TestCase):
    def test_base_class_is_a_value_error(self):
        self.assertEqual(errors.HallError.__bases__, (ValueError,))
        self.assertEqual(errors.HallError.__module__, "letterhalls.errors")

    def test_all_are_direct_subclasses(self):
        for name in PLAIN + list(WITH_FIELDS):
            with self.subTest(name):
                error = getattr(errors, name)
                self.assertEqual(error.__bases__, (errors.HallError,))
                self.assertEqual(error.__name__, name)
                self.assertEqual(error.__module__, "letterhalls.errors")

    def test_plain_errors_are_made_of_nothing(self):
        for name in PLAIN:
            with self.subTest(name):
                error = getattr(errors, name)()
                self.assertIsInstance(error, errors.HallError)
                self.assertIsInstance(str(error), str)

    def test_fields_are_set_when_made(self):
        for name, fields in WITH_FIELDS.items():
            for values in [[f"value of {field}" for field in fields], [None, 0][: len(fields)], [3, 5][: len(fields)]]:
                with self.subTest(name, values=values):
                    error = getattr(errors, name)(*values)
                    self.assertEqual([getattr(error, field) for field in fields], values)
                    self.assertIsInstance(str(error), str)

    def test_fields_belong_to_each_object(self):
        one, other = errors.BadHouse("whole"), errors.BadHouse("doors")
        self.assertEqual((one.part, other.part), ("whole", "doors"))
        one, other = errors.BadLine(1, 2), errors.BadLine(3, 4)
        self.assertEqual((one.line, one.word, other.line, other.word), (1, 2, 3, 4))

    def test_errors_are_caught_by_their_base_classes(self):
        for name in PLAIN:
            with self.subTest(name), self.assertRaises(ValueError):
                raise getattr(errors, name)()
        for name, fields in WITH_FIELDS.items():
            with self.subTest(name), self.assertRaises(errors.HallError):
                raise getattr(errors, name)(*fields)


if __name__ == "__main__":
    unittest.main()
