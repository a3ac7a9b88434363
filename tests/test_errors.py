"""Promise 3: the refusals."""

import unittest

from onebend import errors

NAMES = [
    "NoNumbers", "NoBounds", "NoFit", "NoMeasure", "NoNumber", "NoPlace",
    "NoPrices", "TooMany", "NoText", "NoName", "NoRow",
]


class ErrorClasses(unittest.TestCase):

    def test_every_class_is_made_with_one_text_that_str_tells(self):
        for name in NAMES + ["BendError"]:
            for text in ["why", "", "two words, and more", "a\tb\n~"]:
                with self.subTest(name=name, text=text):
                    self.assertEqual(str(getattr(errors, name)(text)), text)

    def test_bend_error_is_a_value_error(self):
        self.assertTrue(issubclass(errors.BendError, ValueError))

    def test_every_class_stands_under_bend_error(self):
        for name in NAMES:
            with self.subTest(name=name):
                found = getattr(errors, name)
                self.assertTrue(issubclass(found, errors.BendError))
                self.assertTrue(issubclass(found, ValueError))
                self.assertIsNot(found, errors.BendError)

    def test_none_stands_under_another(self):
        for name in NAMES:
            for other in NAMES:
                if name != other:
                    with self.subTest(name=name, other=other):
                        self.assertFalse(issubclass(getattr(errors, name), getattr(errors, other)))

    def test_each_is_caught_as_bend_error(self):
        for name in NAMES:
            with self.subTest(name=name):
                with self.assertRaises(errors.BendError) as caught:
                    raise getattr(errors, name)("why")
                self.assertEqual(str(caught.exception), "why")


if __name__ == "__main__":
    unittest.main()
