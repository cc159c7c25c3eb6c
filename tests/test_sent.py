import unittest
from fractions import Fraction

from onecurve.between import bounds_of, heights_of
from onecurve.curves import height_at, slope_of
from onecurve.errors import NoNumber
from onecurve.parted import noughts_of
from onecurve.points import missed, points_of
from onecurve.sent import sent_curve, sent_points
from onecurve.steps import curve_through
from onecurve.wrong import judged
from tests.helper import POINT_SHAPES, CurveChecks, Made, curve, frac, num, places, powers_sum

ONE, TWO, THREE = (1, 1), (2, 1), (3, 1)
WAYS = [(ONE, (0, 1), ONE, (0, 1)), (TWO, THREE, (5, 1), (7, 1)), ((-1, 1), (0, 1), ONE, (0, 1)),
        (ONE, (0, 1), (-1, 1), (0, 1)), ((-2, 3), (1, 2), (-7, 5), (-4, 1)), ((1, 3), (-5, 1), (3, 4), (0, 1))]


def goes_to(number, factor, more):
    return num(frac(number) * frac(factor) + frac(more))


class SentPoints(CurveChecks, unittest.TestCase):
    def test_ordinary(self):
        points = ((ONE, TWO), ((0, 1), ONE, THREE))
        self.assertEqual(sent_points(points, TWO, ONE, (4, 1), (-1, 1)),
                         ((THREE, (7, 1)), (ONE, THREE, (6, 1))))

    def test_as_told_and_in_order(self):
        made = Made(76)
        for shape in POINT_SHAPES:
            points = made.points(shape)
            for a, b, c, d in WAYS:
                told = sent_points(points, a, b, c, d)
                self.assertIs(type(told), tuple)
                self.assertEqual(points_of(told), told)
                awaited = []
                for point in points:
                    slopes = tuple(num(frac(c) * frac(slope) / frac(a)) for slope in point[2:])
                    awaited.append((goes_to(point[0], a, b), goes_to(point[1], c, d)) + slopes)
                self.assertEqual(told, tuple(awaited))
            self.check_told_again(sent_points, points, *WAYS[4])

    def test_back_again(self):
        points = Made(77).points("./../.", 3)
        for a, b, c, d in WAYS:
            told = sent_points(points, a, b, c, d)
            back = (num(1 / frac(a)), num(-frac(b) / frac(a)), num(1 / frac(c)), num(-frac(d) / frac(c)))
            self.assertEqual(sent_points(told, *back), points)
        self.assertEqual(sent_points(points, *WAYS[0]), points)

    def test_refused(self):
        points = ((ONE, TWO, THREE), (TWO, ONE))
        for a, c in (((0, 1), ONE), (ONE, (0, 1)), ((0, 1), (0, 1))):
            for b, d in (((0, 1), (0, 1)), (ONE, TWO)):
                self.check_refused(NoNumber, sent_points, points, a, b, c, d)
                for told in ((), curve(1), curve(1, 2, 3)):
                    self.check_refused(NoNumber, sent_curve, told, a, b, c, d)


class SentCurve(CurveChecks, unittest.TestCase):
    def test_ordinary(self):
        self.assertEqual(sent_curve(curve(0, 0, 1), TWO, (0, 1), ONE, (0, 1)), curve(0, 0, Fraction(1, 4)))
        self.assertEqual(sent_curve(curve(0, 1), ONE, THREE, TWO, (5, 1)), curve(-1, 2))
        self.assertEqual(sent_curve(curve(1), ONE, THREE, TWO, (-2, 1)), ())

    def test_at_the_sent_place_the_sent_height(self):
        made = Made(78)
        curves = [(), curve(1), curve(0, 1)] + [made.curve(width) for width in (2, 5, 16)] + [made.curve(16, 60)]
        for told in curves:
            for a, b, c, d in WAYS:
                sent = sent_curve(told, a, b, c, d)
                self.check_curve(sent)
                for x in places(5):
                    self.assertEqual(powers_sum(sent, frac(a) * x + frac(b)),
                                     frac(c) * powers_sum(told, x) + frac(d))
            self.assertEqual(sent_curve(told, *WAYS[0]), told)
        self.check_told_again(sent_curve, curves[4], *WAYS[4])

    def test_of_the_nought_curve(self):
        self.assertEqual(sent_curve((), TWO, ONE, THREE, (0, 1)), ())
        self.assertEqual(sent_curve((), TWO, ONE, THREE, (5, 2)), ((5, 2),))

    def test_the_curve_of_the_sent_points(self):
        made = Made(79)
        for shape in POINT_SHAPES:
            points = made.points(shape)
            for way in WAYS:
                self.assertEqual(curve_through(sent_points(points, *way)), sent_curve(curve_through(points), *way))


class GoesAlong(CurveChecks, unittest.TestCase):
    def test_missed_numbers(self):
        made = Made(80)
        for shape in POINT_SHAPES:
            points = made.points(shape)
            for told in (made.curve(2), (), curve(frac(points[0][1])) if points[0][1] != (0, 1) else ()):
                for way in WAYS:
                    awaited = [(goes_to(x, way[0], way[1]), k) for x, k in missed(points, told)]
                    self.assertEqual(missed(sent_points(points, *way), sent_curve(told, *way)), awaited)

    def test_bounds(self):
        made = Made(81)
        for width in (1, 2, 5, 9):
            told = made.curve(width)
            for a, b, c, d in WAYS:
                sent = sent_curve(told, a, b, c, d)
                if len(sent) != len(told):
                    continue
                low, high = sorted([goes_to((-3, 2), a, b), goes_to(TWO, a, b)], key=frac)
                bounds = sorted([goes_to(each, c, d) for each in bounds_of(told, (-3, 2), TWO)], key=frac)
                self.assertEqual(bounds_of(sent, low, high), tuple(bounds))
                heights = [goes_to(each, c, d) for each in heights_of(told, (-3, 2), TWO)]
                self.assertEqual(heights_of(sent, low, high), heights if frac(a) > 0 else heights[::-1])

    def test_noughts(self):
        told = curve_through(((ONE, (0, 1), (0, 1)), (TWO, (0, 1)), ((0, 1), THREE)))
        for a, b, c, d in WAYS:
            low, high = sorted([goes_to((-1, 1), a, b), goes_to(TWO, a, b)], key=frac)
            self.assertEqual(noughts_of(sent_curve(told, a, b, c, (0, 1)), low, high), 2)
        self.assertEqual(height_at(slope_of(told), ONE), (0, 1))

    def test_wrong_places(self):
        spots = [(k, 1) for k in range(8)]
        heights = [num(powers_sum(curve(1, 2, 3), Fraction(k))) for k in range(8)]
        heights[2], heights[6] = (0, 1), (100, 1)
        for a, b, c, d in WAYS:
            told = judged([goes_to(x, a, b) for x in spots], [goes_to(y, c, d) for y in heights], 3, 2)
            wrong = sorted([goes_to(TWO, a, b), goes_to((6, 1), a, b)], key=frac)
            self.assertEqual(told, ("one", sent_curve(curve(1, 2, 3), a, b, c, d), wrong))


if __name__ == "__main__":
    unittest.main()
