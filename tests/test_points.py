import unittest
from fractions import Fraction

from onecurve.errors import NoPoints, TooMany
from onecurve.points import knots_of, missed, points_of, told_in
from tests.helper import (POINT_SHAPES, SIXTY, CurveChecks, Made, curve, frac, num, other_curve_through,
                          powers_sum, slope_sum, told_numbers)

ONE, TWO, THREE = (1, 1), (2, 1), (3, 1)
NO_NUMBERS = [True, False, 0, 5, (True, 1), (1, True), (2, 4), (0, 2), (1, 0), (1, -2), (-1, -1),
              (1, 2, 3), (1,), (), [1, 2], [(1, 1)], "1", "1/2", "", None, {}, 1.5, (1.0, 1), ((1, 1), (1, 1)),
              Fraction(1, 2), object()]


def line_of_points(many, slope=False):
    return [((k, 1), (k * k, 1)) + (((k, 2) if k % 2 else (k, 1),) if slope else ()) for k in range(many)]


class PointsOf(CurveChecks, unittest.TestCase):
    def check_points(self, thing):
        told = points_of(thing)
        self.assertIs(type(told), tuple)
        self.assertEqual(told, tuple(thing))
        self.assertEqual(points_of(told), told)
        self.assertEqual(points_of(list(told)), told)

    def test_of_a_list_and_of_a_tuple(self):
        self.check_points([(ONE, TWO)])
        self.check_points(((TWO, ONE), (ONE, TWO)))
        self.check_points([(ONE, TWO, THREE)])
        self.check_points([(THREE, TWO), (ONE, TWO, THREE), (TWO, (-5, 3))])
        self.check_points([((0, 1), (0, 1), (0, 1)), ((-1, SIXTY), (SIXTY, 2))])

    def test_every_shape(self):
        made = Made(20)
        for shape in POINT_SHAPES:
            for figures in (2, 60):
                self.check_points(list(made.points(shape, figures)))

    def test_order_is_kept(self):
        points = Made(21).points("./../.")
        self.assertEqual(points_of(points[::-1]), points[::-1])

    def test_a_list_changed_behind_the_call(self):
        things = [(ONE, TWO), (TWO, ONE)]
        told = points_of(things)
        self.assertEqual(things, [(ONE, TWO), (TWO, ONE)])
        things[0] = (THREE, THREE)
        things.append(None)
        self.assertEqual(told, ((ONE, TWO), (TWO, ONE)))

    def test_none_at_all(self):
        for thing in ([], ()):
            self.check_refused(NoPoints, points_of, thing)

    def test_no_list_and_no_tuple(self):
        for thing in (None, True, False, 0, 1, -7, "", "1:2", "points", {}, {ONE: TWO}, {0: (ONE, TWO)},
                      {(ONE, TWO)}, 1.5, b"12", range(3), object(), len, iter([(ONE, TWO)])):
            self.check_refused(NoPoints, points_of, thing)

    def test_things_that_are_no_points(self):
        for thing in ([ONE, TWO], (ONE,), (), (ONE, TWO, THREE, ONE), ONE, None, True, 5, "12", "", {},
                      [], {0: ONE, 1: TWO}, ((ONE, TWO),), ((ONE, TWO), (TWO, ONE)), [(ONE, TWO)]):
            self.check_refused(NoPoints, points_of, [thing])
            self.check_refused(NoPoints, points_of, (thing,))
            self.check_refused(NoPoints, points_of, [(THREE, ONE), thing])
            self.check_refused(NoPoints, points_of, (thing, (THREE, ONE)))

    def test_what_is_no_number_in_each_place(self):
        for thing in NO_NUMBERS:
            for point in ((thing, TWO), (ONE, thing), (thing, TWO, THREE), (ONE, thing, THREE), (ONE, TWO, thing)):
                self.check_refused(NoPoints, points_of, [point])
                self.check_refused(NoPoints, points_of, (point,))
                self.check_refused(NoPoints, points_of, [((9, 1), ONE), point])

    def test_a_point_itself_is_no_points(self):
        for thing in ((ONE, TWO), (ONE, TWO, THREE), [ONE, TWO]):
            self.check_refused(NoPoints, points_of, thing)

    def test_a_list_within_itself(self):
        within = []
        within.append(within)
        self.check_refused(NoPoints, points_of, within)

    def test_a_place_twice(self):
        for other in ((ONE, TWO), (ONE, THREE), (ONE, TWO, ONE), (ONE, TWO, THREE), (ONE, THREE, THREE)):
            for first in ((ONE, TWO), (ONE, TWO, ONE)):
                self.check_refused(NoPoints, points_of, [first, other])
                self.check_refused(NoPoints, points_of, (first, (TWO, TWO), other))

    def test_twelve_told_numbers_are_points(self):
        self.check_points(line_of_points(12))
        self.check_points(line_of_points(6, True))
        self.check_points(line_of_points(11)[:10] + [((20, 1), ONE, ONE)])

    def test_more_than_twelve(self):
        for things in (line_of_points(13), line_of_points(14), line_of_points(200), line_of_points(7, True),
                       line_of_points(11) + [((20, 1), ONE, ONE)], line_of_points(12)[1:] + [((0, 1), ONE, ONE)],
                       [((20, 1), ONE)] + line_of_points(6, True)):
            self.check_refused(TooMany, points_of, things)
            self.check_refused(TooMany, points_of, tuple(things))

    def test_no_points_goes_ahead_of_too_many(self):
        many = line_of_points(14)
        for more in (many[0], ((13, 1), (9, 1), ONE), None, [ONE, TWO], (ONE,), ((20, 1), (2, 4)), ((20, 1), True)):
            self.check_refused(NoPoints, points_of, many + [more])
            self.check_refused(NoPoints, points_of, [more] + many)


class ToldIn(CurveChecks, unittest.TestCase):
    def test_height_ahead_of_slope(self):
        points = ((THREE, ONE), (ONE, TWO, (1, 2)), (TWO, (0, 1)))
        self.assertEqual(told_in(points), [(THREE, 0, ONE), (ONE, 0, TWO), (ONE, 1, (1, 2)), (TWO, 0, (0, 1))])
        self.assertEqual(knots_of(points), [THREE, ONE, ONE, TWO])

    def test_every_shape(self):
        made = Made(22)
        for shape in POINT_SHAPES:
            points = made.points(shape)
            told = told_in(points)
            self.assertIs(type(told), list)
            self.assertEqual([(frac(x), k, frac(number)) for x, k, number in told], told_numbers(points))
            self.assertEqual(knots_of(points), [x for x, k, number in told])
            self.assertEqual(len(told), len(shape) + shape.count("/"))
            self.check_told_again(told_in, points)
            self.check_told_again(knots_of, points)


class Missed(CurveChecks, unittest.TestCase):
    def test_ordinary(self):
        points = ((ONE, TWO, ONE), ((0, 1), ONE), (TWO, TWO, ONE))
        self.assertEqual(missed(points, curve(1, 1)), [(TWO, 0)])
        self.assertEqual(missed(points, curve(2)), [(ONE, 1), ((0, 1), 0), (TWO, 1)])
        self.assertEqual(missed(points, curve(0, 1)), [(ONE, 0), ((0, 1), 0)])
        self.assertEqual(missed(((ONE, TWO, THREE),), curve(-1, 3)), [])

    def test_of_the_nought_curve_the_told_numbers_that_are_not_nought(self):
        points = ((ONE, (0, 1), (0, 1)), (TWO, ONE, (0, 1)), (THREE, (0, 1), (-1, 2)), ((4, 1), (0, 1)), ((5, 1), ONE))
        self.assertEqual(missed(points, ()), [(TWO, 0), (THREE, 1), ((5, 1), 0)])

    def test_straight_by_the_words(self):
        made = Made(23)
        for shape in POINT_SHAPES:
            points = made.points(shape)
            for told in ((), made.curve(1), made.curve(3), made.curve(16), other_curve_through(points)):
                awaited = [(num(x), k) for x, k, number in told_numbers(points)
                           if (slope_sum if k else powers_sum)(told, x) != number]
                self.assertEqual(missed(points, told), awaited)

    def test_none_where_it_goes_through(self):
        made = Made(24)
        for shape in POINT_SHAPES:
            points = made.points(shape, 2)
            self.assertEqual(missed(points, other_curve_through(points)), [])
            self.check_told_again(missed, points, made.curve(4))


if __name__ == "__main__":
    unittest.main()
