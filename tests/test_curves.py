import unittest
from fractions import Fraction

from onecurve.curves import (added, curve_of, height_at, lessened, multiplied, scaled,
                             slope_of, with_line)
from tests.helper import SIXTY, CurveChecks, Made, curve, frac, num, places, powers_sum

HALF = Fraction(1, 2)


def some_curves():
    made = Made(5)
    told = [(), curve(1), curve(-HALF), curve(0, 1), curve(0, 0, 0, 2), curve(1, 2, 3),
            curve(-1, -2, -3), curve(HALF, 0, -Fraction(1, 3)), curve(0, 1, 0, -1, 0, HALF)]
    told += [made.curve(width) for width in (1, 2, 3, 4, 7)]
    told += [made.gapped(width) for width in (2, 5, 8)]
    return told + [made.curve(16, 2), made.curve(16, 60)]


def some_factors():
    made = Made(6)
    return [num(0), num(1), num(-1), num(2, 3), num(-7, 2), num(-SIXTY, 2), made.number(60)]


class CurveOf(CurveChecks, unittest.TestCase):
    def test_noughts_at_the_end_are_left_out(self):
        self.assertEqual(curve_of([(1, 2), (0, 1), (3, 1)]), ((1, 2), (0, 1), (3, 1)))
        self.assertEqual(curve_of([(1, 2), (0, 1), (0, 1)]), ((1, 2),))
        self.assertEqual(curve_of([(0, 1), (-1, 3), (0, 1)]), ((0, 1), (-1, 3)))

    def test_noughts_alone_and_none(self):
        for many in (0, 1, 2, 16, 200):
            self.assertEqual(curve_of([(0, 1)] * many), ())

    def test_two_hundred_numbers(self):
        numbers = [Made(8).number(60) for k in range(199)] + [(1, SIXTY)]
        self.assertEqual(curve_of(numbers), tuple(numbers))
        self.assertEqual(curve_of(numbers[:150] + [(0, 1)] * 50), tuple(numbers[:150]))

    def test_the_list_stays_and_changes_nothing_later(self):
        numbers = [(1, 1), (0, 1), (5, 2), (0, 1), (0, 1)]
        kept = list(numbers)
        told = curve_of(numbers)
        self.check_curve(told)
        self.assertEqual(numbers, kept)
        numbers[0] = (9, 1)
        numbers.append((7, 1))
        self.assertEqual(told, ((1, 1), (0, 1), (5, 2)))
        self.assertEqual(curve_of(kept), told)


class HeightAt(CurveChecks, unittest.TestCase):
    def test_ordinary(self):
        told = curve(1, -2, 3)
        self.assertEqual(height_at(told, (2, 1)), (9, 1))
        self.assertEqual(height_at(told, (-2, 1)), (17, 1))
        self.assertEqual(height_at(told, (1, 2)), (3, 4))
        self.assertEqual(height_at(told, (-1, 3)), (2, 1))

    def test_at_nought_the_first_number(self):
        self.assertEqual(height_at(curve(HALF, 5, 7), (0, 1)), (1, 2))
        self.assertEqual(height_at(curve(-3), (0, 1)), (-3, 1))
        self.assertEqual(height_at(curve(0, 0, 4), (0, 1)), (0, 1))

    def test_nought_curve(self):
        for x in [num(0), num(1), num(-5, 3), num(SIXTY, 7)]:
            self.assertEqual(height_at((), x), (0, 1))

    def test_sum_of_powers(self):
        spots = places(7) + [Fraction(0), Fraction(1), Fraction(-1), Fraction(SIXTY, SIXTY - 1)]
        for told in some_curves():
            for x in spots:
                height = height_at(told, num(x))
                self.check_number(height)
                self.assertEqual(frac(height), powers_sum(told, x))

    def test_nought_at_less_places_than_its_width(self):
        made = multiplied(multiplied(curve(-1, 1), curve(2, 1)), curve(-HALF, 1))
        found = [k for k in range(-20, 21) if height_at(made, num(k, 2)) == (0, 1)]
        self.assertEqual(found, [-4, 1, 2])


class TwoCurves(CurveChecks, unittest.TestCase):
    def check_everywhere(self, call, otherwise):
        for one in some_curves():
            for other in some_curves():
                told = call(one, other)
                self.check_curve(told)
                for x in places(len(one) + len(other) + 1):
                    height = powers_sum(told, x)
                    self.assertEqual(height, otherwise(powers_sum(one, x), powers_sum(other, x)))
                self.assertEqual(call(one, other), told)

    def test_added(self):
        self.assertEqual(added(curve(1, 2), curve(HALF, 0, 3)), curve(3 * HALF, 2, 3))
        self.check_everywhere(added, lambda a, b: a + b)

    def test_lessened(self):
        self.assertEqual(lessened(curve(1, 2), curve(HALF, 0, 3)), curve(HALF, 2, -3))
        self.check_everywhere(lessened, lambda a, b: a - b)

    def test_multiplied(self):
        self.assertEqual(multiplied(curve(1, 2), curve(-1, 2)), curve(-1, 0, 4))
        self.assertEqual(multiplied(curve(0, HALF), curve(0, 0, 2)), curve(0, 0, 0, 1))
        self.check_everywhere(multiplied, lambda a, b: a * b)

    def test_last_numbers_go_out(self):
        self.assertEqual(added(curve(1, 2, 3), curve(4, 5, -3)), curve(5, 7))
        self.assertEqual(added(curve(1, 2, 3), curve(4, -2, -3)), curve(5))
        self.assertEqual(added(curve(1, 2, 3), curve(-1, -2, -3)), ())
        self.assertEqual(lessened(curve(1, 2, 3), curve(4, 5, 3)), curve(-3, -3))
        self.assertEqual(lessened(curve(1, HALF), curve(0, HALF)), curve(1))
        for told in some_curves():
            self.assertEqual(lessened(told, told), ())

    def test_nought_curve(self):
        for told in some_curves():
            self.assertEqual(added(told, ()), told)
            self.assertEqual(added((), told), told)
            self.assertEqual(lessened(told, ()), told)
            self.assertEqual(lessened((), told), scaled(told, (-1, 1)))
            self.assertEqual(multiplied(told, ()), ())
            self.assertEqual(multiplied((), told), ())

    def test_different_ways_come_to_the_same(self):
        one, other, third = Made(9).curve(4, 3), Made(10).curve(6, 3), Made(11).gapped(5)
        self.assertEqual(multiplied(added(one, other), third),
                         added(multiplied(one, third), multiplied(other, third)))
        self.assertEqual(lessened(one, other), added(one, scaled(other, (-1, 1))))
        self.assertEqual(multiplied(one, multiplied(other, third)),
                         multiplied(multiplied(one, other), third))
        self.assertEqual(slope_of(multiplied(one, other)),
                         added(multiplied(slope_of(one), other), multiplied(one, slope_of(other))))
        for x in places(5):
            at = num(x)
            self.assertEqual(height_at(with_line(one, at, at), (0, 1)), height_at(one, at))


class OneCurve(CurveChecks, unittest.TestCase):
    def test_scaled(self):
        self.assertEqual(scaled(curve(1, 0, 3), (2, 3)), curve(Fraction(2, 3), 0, 2))
        for told in some_curves():
            self.assertEqual(scaled(told, (0, 1)), ())
            self.assertEqual(scaled(told, (1, 1)), told)
            for number in some_factors():
                made = scaled(told, number)
                self.check_curve(made)
                for x in places(len(told) + 1):
                    self.assertEqual(powers_sum(made, x), powers_sum(told, x) * frac(number))

    def test_slope_of(self):
        self.assertEqual(slope_of(curve(7, 1, HALF, 0, 2)), curve(1, 1, 0, 8))
        self.assertEqual(slope_of(curve(7)), ())
        self.assertEqual(slope_of(()), ())
        for told in some_curves():
            made = slope_of(told)
            self.check_curve(made)
            self.assertEqual(len(made), max(len(told) - 1, 0))
            for k in range(len(made)):
                self.assertEqual(frac(made[k]), frac(told[k + 1]) * (k + 1))

    def test_with_line(self):
        self.assertEqual(with_line(curve(0, 0, 1), (2, 1), (3, 1)), curve(9, 12, 4))
        self.assertEqual(with_line(curve(1, 1), (1, 2), (-1, 1)), curve(0, HALF))
        for told in some_curves():
            for a in some_factors():
                for b in [num(0), num(3), num(-2, 3), num(5, SIXTY)]:
                    self.check_with_line(told, a, b)

    def check_with_line(self, told, a, b):
        made = with_line(told, a, b)
        self.check_curve(made)
        self.assertLessEqual(len(made), len(told))
        for x in places(3 if len(told) > 9 else len(told) + 1):
            self.assertEqual(powers_sum(made, x), powers_sum(told, frac(a) * x + frac(b)))

    def test_with_line_of_nought(self):
        told = curve(6, -5, 1)
        self.assertEqual(with_line(told, (1, 1), (0, 1)), told)
        self.assertEqual(with_line(told, (0, 1), (0, 1)), curve(6))
        self.assertEqual(with_line(told, (0, 1), (1, 1)), curve(2))
        self.assertEqual(with_line(told, (0, 1), (2, 1)), ())
        self.assertEqual(with_line(told, (-1, 1), (0, 1)), curve(6, 5, 1))
        self.assertEqual(with_line(curve(0, 1), (0, 1), (0, 1)), ())
        self.assertEqual(with_line((), (2, 3), (4, 1)), ())
        self.assertEqual(with_line(curve(5), (0, 1), (4, 1)), curve(5))

    def test_asked_again(self):
        one, other = Made(12).curve(5), Made(13).curve(3)
        kept = (tuple(one), tuple(other))
        for call, things in [(added, (one, other)), (lessened, (one, other)),
                             (multiplied, (one, other)), (scaled, (one, (2, 7))),
                             (slope_of, (one,)), (with_line, (one, (2, 7), (-1, 3))),
                             (height_at, (one, (2, 7))), (curve_of, (list(one),))]:
            first = call(*things)
            self.assertEqual(call(*things), first)
            self.assertEqual((one, other), kept)


if __name__ == "__main__":
    unittest.main()
