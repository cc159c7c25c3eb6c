import math
import unittest
from fractions import Fraction

from onecurve.between import bounds_of, halves_of, heights_of
from onecurve.curves import height_at
from onecurve.errors import NoStretch
from tests.helper import SIXTY, CurveChecks, Made, curve, frac, num, powers_sum

ONE, TWO, THREE = (1, 1), (2, 1), (3, 1)
STRETCHES = [((0, 1), ONE), ((-1, 1), ONE), ((-7, 2), (-1, 3)), ((1, 3), (9, 2)), (ONE, (1000, 1)),
             ((0, 1), (1, SIXTY))]


def some_curves():
    made = Made(55)
    told = [(), curve(1), curve(-3), curve(0, 1), curve(1, -2, 1), curve(0, 0, 0, 0, 2), made.gapped(7)]
    return told + [made.curve(width) for width in (2, 3, 4, 6, 9, 12, 16)]


def held_sum(heights, t):
    """The sum that point 20 tells."""
    last = len(heights) - 1
    return sum(frac(h) * math.comb(last, k) * t ** k * (1 - t) ** (last - k) for k, h in enumerate(heights))


class HeightsOf(CurveChecks, unittest.TestCase):
    def test_ordinary(self):
        self.assertEqual(heights_of(curve(0, 0, 1), (0, 1), ONE), [(0, 1), (0, 1), ONE])
        self.assertEqual(heights_of(curve(0, 0, 1), ONE, THREE), [ONE, THREE, (9, 1)])
        self.assertEqual(heights_of(curve(5), (-1, 2), THREE), [(5, 1)])
        self.assertEqual(heights_of(curve(1, 2), (0, 1), (1, 2)), [ONE, TWO])
        self.assertEqual(heights_of(curve(0, 1, 0, 1), (0, 1), THREE), [(0, 1), ONE, TWO, (30, 1)])

    def test_nought_curve(self):
        self.assertEqual(heights_of((), ONE, TWO), [(0, 1)])
        self.assertEqual(bounds_of((), ONE, TWO), ((0, 1), (0, 1)))

    def test_the_sum(self):
        for told in some_curves():
            for low, high in STRETCHES:
                heights = heights_of(told, low, high)
                self.assertIs(type(heights), list)
                self.assertEqual(len(heights), max(len(told), 1))
                for height in heights:
                    self.check_number(height)
                self.assertEqual(heights[0], height_at(told, low))
                self.assertEqual(heights[-1], height_at(told, high))
                for k in range(len(heights) + 1):
                    t = Fraction(k, len(heights))
                    x = frac(low) + t * (frac(high) - frac(low))
                    self.assertEqual(held_sum(heights, t), powers_sum(told, x))
                self.check_told_again(heights_of, told, low, high)

    def test_no_stretch(self):
        for told in ((), curve(1), curve(1, 2, 3)):
            for low, high in ((ONE, ONE), (TWO, ONE), ((1, 2), (1, 3)), ((-1, 3), (-1, 2)), ((0, 1), (0, 1))):
                self.check_refused(NoStretch, heights_of, told, low, high)
                self.check_refused(NoStretch, bounds_of, told, low, high)


class BoundsOf(CurveChecks, unittest.TestCase):
    def test_ordinary(self):
        self.assertEqual(bounds_of(curve(0, 0, 1), (-1, 1), TWO), ((-2, 1), (4, 1)))
        self.assertEqual(bounds_of(curve(0, -1), ONE, THREE), ((-3, 1), (-1, 1)))
        self.assertEqual(bounds_of(curve(7), ONE, THREE), ((7, 1), (7, 1)))

    def test_least_and_greatest(self):
        for told in some_curves():
            for low, high in STRETCHES:
                bounds = bounds_of(told, low, high)
                heights = sorted(heights_of(told, low, high), key=frac)
                self.assertEqual(bounds, (heights[0], heights[-1]))
                self.assertIs(type(bounds), tuple)
                for k in range(12):
                    x = frac(low) + Fraction(k, 11) * (frac(high) - frac(low))
                    self.assertTrue(frac(bounds[0]) <= powers_sum(told, x) <= frac(bounds[1]))


class HalvesOf(CurveChecks, unittest.TestCase):
    def test_ordinary(self):
        self.assertEqual(halves_of([ONE, THREE]), ([ONE, TWO], [TWO, THREE]))
        self.assertEqual(halves_of([(0, 1), (0, 1), ONE]), ([(0, 1), (0, 1), (1, 4)], [(1, 4), (1, 2), ONE]))
        self.assertEqual(halves_of([(5, 3)]), ([(5, 3)], [(5, 3)]))

    def test_heights_of_both_halves(self):
        for told in some_curves():
            for low, high in STRETCHES:
                middle = num((frac(low) + frac(high)) / 2)
                halves = halves_of(heights_of(told, low, high))
                self.assertEqual(halves, (heights_of(told, low, middle), heights_of(told, middle, high)))

    def test_never_wider(self):
        made = Made(56)
        for many in range(1, 14):
            some = [made.number(2) for k in range(many)]
            for half in halves_of(some):
                self.assertGreaterEqual(min(map(frac, half)), min(map(frac, some)))
                self.assertLessEqual(max(map(frac, half)), max(map(frac, some)))

    def test_the_list_stays(self):
        made = Made(57)
        for many in (1, 2, 12, 16):
            self.check_told_again(halves_of, [made.number(60) for k in range(many)])
        lower, upper = halves_of([ONE])
        lower.append(TWO)
        self.assertEqual(upper, [ONE])


if __name__ == "__main__":
    unittest.main()
