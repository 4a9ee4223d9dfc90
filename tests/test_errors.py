"""The errors of the interface."""

import unittest

from commonweb import errors

NAMES = ("NoTable", "NoTree", "NoShape", "NoWebs", "NoDeed", "NoText", "NoRow")


class Errors(unittest.TestCase):
    def test_any_refusal_is_a_value_error(self):
        self.assertTrue(issubclass(errors.WebError, ValueError))

    def test_each_stands_under_web_error(self):
        for name in NAMES:
            with self.subTest(name=name):
                refusal = getattr(errors, name)
                self.assertTrue(issubclass(refusal, errors.WebError))
                self.assertIsNot(refusal, errors.WebError)
                with self.assertRaises(errors.WebError):
                    raise refusal("why")

    def test_none_stands_under_another(self):
        for name in NAMES:
            for other in NAMES:
                with self.subTest(name=name, other=other):
                    under = issubclass(getattr(errors, name), getattr(errors, other))
                    self.assertEqual(under, name == other)


if __name__ == "__main__":
    unittest.main()
