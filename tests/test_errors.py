"""Point 14 and the interface: the five classes of refusals."""

import unittest

from poisescale import errors
from poisescale.errors import NoForm, NoNumber, NoPlace, NoText, ScaleError

REFUSALS = (NoForm, NoNumber, NoText, NoPlace)


class Classes(unittest.TestCase):
    def test_any_refusal_stands_under_value_error(self):
        self.assertEqual(ScaleError.__bases__, (ValueError,))

    def test_each_refusal_stands_under_scale_error(self):
        for refusal in REFUSALS:
            with self.subTest(refusal=refusal.__name__):
                self.assertEqual(refusal.__bases__, (ScaleError,))

    def test_none_of_the_four_stands_under_another(self):
        for one in REFUSALS:
            for other in REFUSALS:
                if one is not other:
                    self.assertFalse(issubclass(one, other))

    def test_the_names_are_those_of_the_classes(self):
        for name in ("ScaleError", "NoForm", "NoNumber", "NoText", "NoPlace"):
            self.assertEqual(getattr(errors, name).__name__, name)

    def test_each_can_be_raised_with_words(self):
        for refusal in (ScaleError,) + REFUSALS:
            with self.assertRaises(refusal) as caught:
                raise refusal("some words")
            self.assertEqual(str(caught.exception), "some words")


if __name__ == "__main__":
    unittest.main()
