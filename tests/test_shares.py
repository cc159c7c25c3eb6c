import unittest
from fractions import Fraction

from onecurve.curves import added, height_at, scaled, slope_of
from onecurve.errors import NoPoints
from onecurve.points import knots_of, told_in
from onecurve.shares import shares_of, weighed, weights_of
from onecurve.steps import curve_through
from tests.helper import POINT_SHAPES, CurveChecks, Made, curve, frac, num, powers_sum, slope_sum, told_numbers

ONE, TWO, THREE = (1, 1), (2, 1), (3, 1)
HALF = Fraction(1, 2)


class SharesOf(CurveChecks, unittest.TestCase):
    def check_shares(self, points):
        shares = shares_of(points)
        told = told_numbers(points)
        self.assertIs(type(shares), list)
        self.assertEqual(len(shares), len(told))
        total = ()
        for j, share in enumerate(shares):
            self.check_curve(share)
            self.assertLessEqual(len(share), len(told))
            self.assertEqual([(slope_sum if k else powers_sum)(share, x) for x, k, number in told],
                             [1 if i == j else 0 for i in range(len(told))])
            total = added(total, scaled(share, num(told[j][2])))
        self.assertEqual(total, curve_through(points))

    def test_ordinary(self):
        points = ((ONE, (7, 1)), (THREE, (8, 1)))
        self.assertEqual(shares_of(points), [curve(3 * HALF, -HALF), curve(-HALF, HALF)])
        self.assertEqual(shares_of((((0, 1), ONE, ONE), (ONE, ONE))),
                         [curve(1, 0, -1), curve(0, 1, -1), curve(0, 0, 1)])

    def test_of_one_point(self):
        self.assertEqual(shares_of(((TWO, (0, 1)),)), [curve(1)])
        self.assertEqual(shares_of(((TWO, (5, 1), THREE),)), [curve(1), curve(-2, 1)])

    def test_every_shape(self):
        made = Made(33)
        for shape in POINT_SHAPES:
            for figures in (1, 6):
                points = made.points(shape, figures)
                self.check_shares(points)
                self.check_told_again(shares_of, points)

    def test_shares_do_not_hang_on_the_heights(self):
        points = Made(34).points("./../.")
        others = tuple((point[0],) + ((0, 1),) * (len(point) - 1) for point in points)
        self.assertEqual(shares_of(points), shares_of(others))

    def test_sixty_figures(self):
        made = Made(35)
        self.check_shares(made.points("./.", 60))
        points = made.points("............", 60)
        share = shares_of(points)[4]
        for j, point in enumerate(points):
            self.assertEqual(height_at(share, point[0]), num(1 if j == 4 else 0))
        points = made.points("//////", 60)
        share = shares_of(points)[6]
        for j, point in enumerate(points):
            self.assertEqual(height_at(share, point[0]), num(1 if j == 3 else 0))
            self.assertEqual(height_at(slope_of(share), point[0]), (0, 1))


class WeightsOf(CurveChecks, unittest.TestCase):
    def test_ordinary(self):
        self.assertEqual(weights_of([(0, 1), ONE, THREE]), [(1, 3), (-1, 2), (1, 6)])
        self.assertEqual(weights_of([(1, 2), (1, 3)]), [(6, 1), (-6, 1)])
        self.assertEqual(weights_of([(5, 7)]), [(1, 1)])

    def test_one_to_twelve(self):
        made = Made(36)
        for many in range(1, 13):
            for figures in (2, 60):
                spots = made.unlike(many, figures)
                weights = weights_of(spots)
                self.assertIs(type(weights), list)
                self.assertEqual(len(weights), many)
                for place, weight in zip(spots, weights):
                    self.check_number(weight)
                    product = Fraction(1)
                    for other in spots:
                        if other != place:
                            product *= frac(place) - frac(other)
                    self.assertEqual(frac(weight) * product, 1)
                self.check_told_again(weights_of, spots)

    def test_refused(self):
        thirteen = [(k, 1) for k in range(13)]
        for spots in ([], thirteen, thirteen + [(20, 1)], [ONE, ONE], [ONE, TWO, ONE], [(1, 2), THREE, TWO, (1, 2)],
                      thirteen[:11] + [(5, 1)], thirteen + [(5, 1)], thirteen * 15):
            self.check_refused(NoPoints, weights_of, spots)
            heights = [(k, 3) if k % 3 else (k, 1) for k in range(len(spots))]
            for x in ((100, 1), ONE, (5, 1), (1, 2)):
                self.check_refused(NoPoints, weighed, spots, heights, x)


class Weighed(CurveChecks, unittest.TestCase):
    def test_ordinary(self):
        self.assertEqual(weighed([(0, 1), ONE, THREE], [ONE, TWO, (10, 1)], TWO), (5, 1))
        self.assertEqual(weighed([(0, 1), ONE, THREE], [ONE, TWO, (10, 1)], (1, 2)), (5, 4))
        self.assertEqual(weighed([ONE], [(7, 2)], (100, 1)), (7, 2))

    def test_at_a_place_its_height(self):
        made = Made(37)
        for many in (1, 2, 7, 12):
            spots, heights = made.unlike(many), [made.number() for k in range(many)]
            for place, height in zip(spots, heights):
                self.assertEqual(weighed(spots, heights, place), height)

    def test_what_the_curve_has(self):
        made = Made(38)
        for many in range(1, 13):
            for figures in (1, 8):
                spots = made.unlike(many, figures)
                heights = [made.number(figures) for k in range(many)]
                told = curve_through(tuple(zip(spots, heights)))
                for x in [made.number(figures) for k in range(4)] + [(0, 1)]:
                    value = weighed(spots, heights, x)
                    self.check_number(value)
                    self.assertEqual(frac(value), powers_sum(told, frac(x)))
                self.check_told_again(weighed, spots, heights, made.number(figures))

    def test_all_tellings_come_to_the_same(self):
        made = Made(39)
        for many in (1, 3, 5):
            points = made.points("." * many, 40)
            x = made.number(40)
            told = height_at(curve_through(points), x)
            self.assertEqual(weighed(knots_of(points), [point[1] for point in points], x), told)
            total = sum(frac(number) * frac(height_at(share, x))
                        for (place, k, number), share in zip(told_in(points), shares_of(points)))
            self.assertEqual(num(total), told)

    def test_heights_nought(self):
        self.assertEqual(weighed([ONE, TWO, THREE], [(0, 1)] * 3, (1, 2)), (0, 1))


if __name__ == "__main__":
    unittest.main()
