import unittest

from onecurve import errors

NAMES = ("NoNumber", "NoCurve", "NoPoints", "TooMany", "NoPoint",
         "NoStretch", "TooDeep", "TooFew", "NoText", "NoRow")


class Errors(unittest.TestCase):
    def test_curve_error_stands_under_value_error(self):
        self.assertEqual(errors.CurveError.__bases__, (ValueError,))

    def test_each_stands_straight_under_curve_error(self):
        for name in NAMES:
            with self.subTest(name):
                self.assertEqual(getattr(errors, name).__bases__, (errors.CurveError,))

    def test_none_stands_under_another_one(self):
        kinds = [getattr(errors, name) for name in NAMES]
        for one in kinds:
            for other in kinds:
                self.assertEqual(issubclass(one, other), one is other)

    def test_each_is_called_by_its_name_and_can_be_raised(self):
        for name in ("CurveError",) + NAMES:
            kind = getattr(errors, name)
            self.assertEqual(kind.__name__, name)
            with self.assertRaises(kind):
                raise kind("words")


if __name__ == "__main__":
    unittest.main()
