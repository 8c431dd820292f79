import unittest

from foretell import errors
from tests.helper import NAMES


class TestErrors(unittest.TestCase):
    def test_any_refusal_is_a_value_error(self):
        self.assertEqual(errors.ForetellError.__bases__, (ValueError,))

    def test_each_stands_straight_under_foretell_error(self):
        for name in NAMES:
            with self.subTest(name=name):
                self.assertEqual(getattr(errors, name).__bases__, (errors.ForetellError,))

    def test_fifteen_and_none_is_another_one(self):
        classes = [getattr(errors, name) for name in NAMES]
        self.assertEqual(len(classes), 15)
        for one in classes:
            self.assertEqual([other for other in classes if issubclass(one, other)], [one])

    def test_each_bears_its_own_name(self):
        for name in NAMES + ("ForetellError",):
            self.assertEqual(getattr(errors, name).__name__, name)

    def test_raised_and_taken_by_name(self):
        for name in NAMES:
            with self.subTest(name=name), self.assertRaises(errors.ForetellError):
                raise getattr(errors, name)("words")


if __name__ == "__main__":
    unittest.main()
