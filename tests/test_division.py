import unittest
from fractions import Fraction

from onecurve.curves import added, curve_of, multiplied, scaled, slope_of
from onecurve.division import common_part, divided
from onecurve.errors import NoCurve
from onecurve.numbers import over
from tests.helper import CurveChecks, Made, curve, frac, num

HALF = Fraction(1, 2)


def some_pairs():
    made = Made(7)
    for width in range(0, 9):
        for other in range(0, 7):
            yield made.curve(width), made.curve(other)
            yield made.gapped(width), made.gapped(other)


def other_rest(one, other):
    """The rest by plain long division over Fractions."""
    rest = [frac(number) for number in one]
    lead = frac(other[-1])
    while len(rest) >= len(other):
        often = rest[-1] / lead
        for k in range(1, len(other) + 1):
            rest[-k] -= often * frac(other[-k])
        rest.pop()
    return curve_of([num(value) for value in rest])


def other_common_part(one, other):
    """The common part by rests of rests, each in lowest terms."""
    while other:
        one, other = other, other_rest(one, other)
    return scaled(one, over((1, 1), one[-1]))


class Divided(CurveChecks, unittest.TestCase):
    def check_divided(self, one, other):
        told = divided(one, other)
        self.assertIs(type(told), tuple)
        self.assertEqual(len(told), 2)
        often, rest = told
        self.check_curve(often)
        self.check_curve(rest)
        self.assertLess(len(rest), len(other))
        self.assertEqual(added(multiplied(often, other), rest), one)
        self.assertEqual(divided(one, other), told)

    def test_ordinary(self):
        self.assertEqual(divided(curve(-1, 0, 1), curve(-1, 1)), (curve(1, 1), ()))
        self.assertEqual(divided(curve(1, 0, 1), curve(-1, 1)), (curve(1, 1), curve(2)))
        self.assertEqual(divided(curve(1, 2, 3), curve(1, 2)),
                         (curve(Fraction(1, 4), 3 * HALF), curve(Fraction(3, 4))))
        self.assertEqual(divided(curve(0, HALF), curve(Fraction(1, 3))), (curve(0, 3 * HALF), ()))

    def test_narrower_and_nought(self):
        self.assertEqual(divided(curve(1, 2), curve(1, 2, 3)), ((), curve(1, 2)))
        self.assertEqual(divided((), curve(1, 2, 3)), ((), ()))
        self.assertEqual(divided((), curve(5)), ((), ()))

    def test_by_one_number_there_is_no_rest(self):
        for width in range(0, 6):
            told = Made(width).curve(width, 2)
            self.assertEqual(divided(told, curve(-HALF)), (scaled(told, (-2, 1)), ()))

    def test_many(self):
        for one, other in some_pairs():
            if other:
                self.check_divided(one, other)

    def test_rest_is_given_back(self):
        made = Made(14)
        for width in range(1, 6):
            other = made.curve(width)
            for narrow in range(width):
                often, rest = made.curve(4), made.curve(narrow)
                one = added(multiplied(often, other), rest)
                self.assertEqual(divided(one, other), (often, rest))

    def test_great_ones(self):
        made = Made(15)
        one = made.curve(16, 60)
        for width in (1, 2, 3, 8, 15, 16):
            self.check_divided(one, made.curve(width, 60))

    def test_by_the_nought_curve_is_refused(self):
        for one in [(), curve(1), curve(1, 2, 3)]:
            self.check_refused(NoCurve, divided, one, ())


class CommonPart(CurveChecks, unittest.TestCase):
    def check_common_part(self, one, other):
        told = common_part(one, other)
        self.check_curve(told)
        self.assertEqual(told[-1], (1, 1))
        self.assertEqual(divided(one, told)[1], ())
        self.assertEqual(divided(other, told)[1], ())
        self.assertEqual(told, other_common_part(one, other))
        self.assertEqual(common_part(other, one), told)
        self.assertEqual(common_part(one, other), told)

    def test_ordinary(self):
        one = multiplied(curve(-1, 1), curve(-2, 1))
        other = multiplied(curve(-1, 2), curve(-3, 3))
        self.assertEqual(common_part(one, other), curve(-1, 1))
        self.assertEqual(common_part(one, one), one)
        self.assertEqual(common_part(one, scaled(one, (-3, 7))), one)

    def test_none_in_common(self):
        self.assertEqual(common_part(curve(-1, 1), curve(-2, 1)), curve(1))
        self.assertEqual(common_part(curve(1, 0, 1), curve(-1, 0, 1)), curve(1))
        self.assertEqual(common_part(curve(5), curve(HALF)), curve(1))
        self.assertEqual(common_part(curve(-5), curve(1, 2, 3)), curve(1))

    def test_with_the_nought_curve(self):
        for told in [curve(5), curve(-HALF), curve(1, 2, 3), curve(0, 0, -4)]:
            whole = scaled(told, over((1, 1), told[-1]))
            self.assertEqual(common_part(told, ()), whole)
            self.assertEqual(common_part((), told), whole)

    def test_two_nought_curves_are_refused(self):
        self.check_refused(NoCurve, common_part, (), ())

    def test_many(self):
        for one, other in some_pairs():
            if one or other:
                self.check_common_part(one, other)

    def test_shared_on_purpose(self):
        made = Made(16)
        for width in range(1, 5):
            for one, other in [(made.curve(3), made.curve(4)), (made.gapped(5), made.gapped(3)),
                               (made.gapped(7), made.curve(1)), (made.curve(2), made.gapped(6))]:
                shared = made.curve(width)
                first, second = multiplied(shared, one), multiplied(shared, other)
                self.check_common_part(first, second)
                self.assertGreaterEqual(len(common_part(first, second)), width)

    def test_widths_that_drop_in_leaps(self):
        made = Made(17)
        for turn in range(300):
            one = multiplied(made.gapped(1 + turn % 5), made.gapped(1 + turn % 9))
            self.check_common_part(one, made.gapped(1 + turn % 11))

    def test_widths_that_drop_in_leaps_with_a_shared_part(self):
        # Without a shared part any wrong rest would come to 1 as well.
        made = Made(19)
        pairs = [(curve(-5, 2, 8, -3, -3, 0, 1, 0, 1), curve(21, -9, -4, 0, 5, 0, 3))]
        pairs += [(made.gapped(5 + turn % 7), made.gapped(4 + turn % 5)) for turn in range(100)]
        for one, other in pairs:
            for shared in [curve(-2, 3), curve(5, 0, 2), made.curve(3)]:
                self.check_common_part(multiplied(one, shared), multiplied(other, shared))

    def test_with_the_slope(self):
        told = multiplied(multiplied(curve(-1, 1), curve(-1, 1)), curve(HALF, 3))
        self.assertEqual(common_part(told, slope_of(told)), curve(-1, 1))

    def test_great_ones(self):
        made = Made(18)
        self.assertEqual(common_part(made.curve(16, 60), made.curve(16, 60)), curve(1))
        shared = made.curve(5, 60)
        first, second = multiplied(shared, made.curve(6, 60)), multiplied(shared, made.curve(4, 60))
        self.assertEqual(common_part(first, second), scaled(shared, over((1, 1), shared[-1])))


if __name__ == "__main__":
    unittest.main()
