"""The refusals, as the interface names them."""

import unittest

from deltahouse import errors
from deltahouse.errors import HouseError
from samples import REFUSALS


class Errors(unittest.TestCase):
    def test_house_error_stands_right_under_value_error(self):
        self.assertEqual(HouseError.__bases__, (ValueError,))

    def test_each_refusal_stands_right_under_house_error(self):
        for refusal in REFUSALS:
            with self.subTest(refusal=refusal.__name__):
                self.assertEqual(refusal.__bases__, (HouseError,))

    def test_none_stands_under_another(self):
        for refusal in REFUSALS:
            for other in REFUSALS:
                with self.subTest(refusal=refusal.__name__, other=other.__name__):
                    self.assertEqual(issubclass(refusal, other), refusal is other)

    def test_there_are_ten_classes(self):
        found = [name for name, value in vars(errors).items() if isinstance(value, type)]
        self.assertEqual(sorted(found), sorted(kind.__name__ for kind in (HouseError,) + REFUSALS))

    def test_each_can_be_raised_and_taken_as_house_error(self):
        for refusal in REFUSALS:
            with self.subTest(refusal=refusal.__name__):
                with self.assertRaises(HouseError) as caught:
                    raise refusal("words")
                self.assertIs(type(caught.exception), refusal)


if __name__ == "__main__":
    unittest.main()
