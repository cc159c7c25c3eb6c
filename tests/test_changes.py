import unittest

from onecurve.changes import gain, loss, new_steps, put_in, taken_out, with_height, with_slope
from onecurve.curves import added, lessened, scaled
from onecurve.errors import NoPoint, NoPoints, TooMany
from onecurve.points import knots_of, missed, told_in
from onecurve.shares import shares_of
from onecurve.steps import by_steps, curve_through, steps_of
from tests.helper import POINT_SHAPES, CurveChecks, Made, curve, frac, num

ONE, TWO, THREE = (1, 1), (2, 1), (3, 1)
POINTS = ((ONE, TWO), (TWO, (5, 1), (1, 2)), ((0, 1), (-1, 3)))
TWELVE = tuple(((k, 1), (k * k, 1)) for k in range(12))
SLOPED = tuple(((k, 1), (k * k, 1), (-k, 1)) for k in range(6))
NO_POINTS = [None, True, 3, "3:4", [], [THREE, ONE], (), (THREE,), (THREE, ONE, ONE, ONE), (THREE, (2, 4)),
             ((6, 2), ONE), (THREE, ONE, 1), (THREE, None), (3, 1), {}]


def shaped(seed, figures=1):
    made = Made(seed)
    return [made.points(shape, figures) for shape in POINT_SHAPES]


class PutIn(CurveChecks, unittest.TestCase):
    def test_behind_the_others(self):
        self.assertEqual(put_in(POINTS, (THREE, ONE)), POINTS + ((THREE, ONE),))
        self.assertEqual(put_in(POINTS, ((-9, 2), ONE, TWO)), POINTS + (((-9, 2), ONE, TWO),))
        self.check_told_again(put_in, POINTS, (THREE, ONE))

    def test_up_to_twelve(self):
        self.assertEqual(put_in(TWELVE[:11], TWELVE[11]), TWELVE)
        self.assertEqual(put_in(SLOPED[:5], SLOPED[5]), SLOPED)

    def check_refused_in_both(self, kind, points, point):
        self.check_refused(kind, put_in, points, point)
        self.check_refused(kind, new_steps, points, point)

    def test_no_points(self):
        for points in (POINTS, TWELVE[4:], TWELVE, SLOPED):
            for thing in NO_POINTS:
                self.check_refused_in_both(NoPoints, points, thing)

    def test_a_place_twice(self):
        for point in (POINTS[0], (ONE, THREE), (TWO, (5, 1)), (TWO, ONE, ONE), ((0, 1), ONE, ONE)):
            self.check_refused_in_both(NoPoints, POINTS, point)
        self.check_refused_in_both(NoPoints, TWELVE, (THREE, ONE))
        self.check_refused_in_both(NoPoints, SLOPED, SLOPED[0])

    def test_too_many(self):
        self.check_refused_in_both(TooMany, TWELVE, ((12, 1), ONE))
        self.check_refused_in_both(TooMany, TWELVE[:11], ((12, 1), ONE, ONE))
        self.check_refused_in_both(TooMany, SLOPED, ((12, 1), ONE))


class TakenOut(CurveChecks, unittest.TestCase):
    def test_ordinary(self):
        self.assertEqual(taken_out(POINTS, ONE), POINTS[1:])
        self.assertEqual(taken_out(POINTS, TWO), (POINTS[0], POINTS[2]))
        self.assertEqual(taken_out(POINTS, (0, 1)), POINTS[:2])
        self.check_told_again(taken_out, POINTS, TWO)

    def test_put_in_and_taken_out_again(self):
        for points in shaped(40):
            if len(knots_of(points)) < 11:
                for point in (((50, 1), ONE), ((50, 1), ONE, TWO)):
                    self.assertEqual(taken_out(put_in(points, point), (50, 1)), points)

    def test_refused(self):
        for call in (taken_out, loss):
            for points in (POINTS, TWELVE, (POINTS[0],), (POINTS[1],)):
                for x in ((1, 3), (100, 1), (-1, 1)):
                    self.check_refused(NoPoint, call, points, x)
            self.check_refused(NoPoints, call, (POINTS[0],), ONE)
            self.check_refused(NoPoints, call, (POINTS[1],), TWO)


class Moved(CurveChecks, unittest.TestCase):
    def test_height(self):
        self.assertEqual(with_height(POINTS, ONE, THREE), ((ONE, THREE), POINTS[1], POINTS[2]))
        self.assertEqual(with_height(POINTS, TWO, (0, 1)), (POINTS[0], (TWO, (0, 1), (1, 2)), POINTS[2]))
        self.assertEqual(with_height(POINTS, TWO, (5, 1)), POINTS)
        self.assertEqual(with_height(((TWO, ONE),), TWO, THREE), ((TWO, THREE),))
        self.check_told_again(with_height, POINTS, ONE, THREE)

    def test_slope(self):
        self.assertEqual(with_slope(POINTS, TWO, THREE), (POINTS[0], (TWO, (5, 1), THREE), POINTS[2]))
        self.assertEqual(with_slope(POINTS, ONE, (0, 1)), ((ONE, TWO, (0, 1)), POINTS[1], POINTS[2]))
        self.assertEqual(with_slope(POINTS, TWO, None), (POINTS[0], (TWO, (5, 1)), POINTS[2]))
        self.assertEqual(with_slope(POINTS, ONE, None), POINTS)
        self.assertEqual(with_slope(TWELVE, ONE, None), TWELVE)
        self.assertEqual(with_slope(SLOPED, ONE, TWO)[1], (ONE, ONE, TWO))
        self.assertEqual(with_slope(TWELVE[:11], (10, 1), TWO), TWELVE[:10] + (((10, 1), (100, 1), TWO),))
        self.check_told_again(with_slope, POINTS, ONE, THREE)
        self.check_told_again(with_slope, POINTS, TWO, None)

    def test_no_point_first(self):
        for x in ((1, 3), (100, 1), (-1, 1)):
            for thing in (ONE, (2, 4), True, "1", [1, 1]):
                self.check_refused(NoPoint, with_height, POINTS, x, thing)
                self.check_refused(NoPoint, with_slope, POINTS, x, thing)
            self.check_refused(NoPoint, with_height, POINTS, x, None)
            self.check_refused(NoPoint, with_slope, POINTS, x, None)
            self.check_refused(NoPoint, with_slope, TWELVE, x if x != ONE else (50, 1), ONE)

    def test_then_as_points_are(self):
        for thing in ((2, 4), (1, 0), True, 1, "1", [1, 1], (1, 1, 1), {}):
            self.check_refused(NoPoints, with_height, POINTS, ONE, thing)
            self.check_refused(NoPoints, with_height, POINTS, TWO, thing)
            self.check_refused(NoPoints, with_slope, POINTS, ONE, thing)
            self.check_refused(NoPoints, with_slope, POINTS, TWO, thing)
            self.check_refused(NoPoints, with_slope, TWELVE, TWO, thing)
        self.check_refused(NoPoints, with_height, POINTS, TWO, None)
        for k in range(12):
            self.check_refused(TooMany, with_slope, TWELVE, (k, 1), ONE)


class NewSteps(CurveChecks, unittest.TestCase):
    def check_new_steps(self, points, point):
        told = new_steps(points, point)
        self.assertIs(type(told), list)
        self.assertEqual(len(told), len(point) - 1)
        together = points + (point,)
        self.assertEqual(steps_of(points) + told, steps_of(together))
        knots = knots_of(points)
        more = by_steps(knots + [point[0]] * len(told), [(0, 1)] * len(knots) + told)
        self.assertEqual(added(curve_through(points), more), curve_through(together))
        self.check_told_again(new_steps, points, point)

    def test_ordinary(self):
        self.assertEqual(new_steps((((0, 1), ONE), (ONE, TWO)), (THREE, (10, 1))), [ONE])
        self.assertEqual(new_steps(((ONE, TWO),), (TWO, TWO, (0, 1))), [(0, 1), (0, 1)])

    def test_every_shape(self):
        made = Made(41)
        for points in shaped(42):
            place = made.number(3)
            while place in knots_of(points):
                place = made.number(3)
            if len(knots_of(points)) < 12:
                self.check_new_steps(points, (place, made.number()))
            if len(knots_of(points)) < 11:
                self.check_new_steps(points, (place, made.number(), made.number()))

    def test_up_to_twelve(self):
        self.check_new_steps(TWELVE[:11], TWELVE[11])
        self.check_new_steps(SLOPED[:5], SLOPED[5])


class Gain(CurveChecks, unittest.TestCase):
    def test_ordinary(self):
        points = ((ONE, (7, 1)), (THREE, (8, 1)))
        self.assertEqual(gain(points, ONE, 0, (4, 1)), curve(6, -2))
        self.assertEqual(gain(((TWO, ONE, ONE),), TWO, 1, (3, 1)), curve(-6, 3))

    def test_the_number_times_the_share(self):
        made = Made(43)
        for points in shaped(44):
            for (x, k, number), share in zip(told_in(points), shares_of(points)):
                more = made.other_than_nought(2)
                told = gain(points, x, k, more)
                self.check_curve(told)
                self.assertEqual(told, scaled(share, more))
                total = num(frac(number) + frac(more))
                moved = with_slope(points, x, total) if k else with_height(points, x, total)
                self.assertEqual(added(curve_through(points), told), curve_through(moved))
                self.assertEqual(gain(points, x, k, (0, 1)), ())
        self.check_told_again(gain, POINTS, TWO, 1, (5, 7))

    def test_no_such_height_or_slope(self):
        for more in (ONE, (0, 1)):
            self.check_refused(NoPoint, gain, POINTS, THREE, 0, more)
            self.check_refused(NoPoint, gain, POINTS, THREE, 1, more)
            self.check_refused(NoPoint, gain, POINTS, ONE, 1, more)
            self.check_refused(NoPoint, gain, POINTS, (0, 1), 1, more)
            for k in (-1, 2, 3):
                self.check_refused(NoPoint, gain, POINTS, TWO, k, more)


class Loss(CurveChecks, unittest.TestCase):
    def test_ordinary(self):
        points = (((0, 1), ONE), (ONE, TWO), (THREE, (10, 1)))
        self.assertEqual(loss(points, THREE), curve(0, -1, 1))
        self.assertEqual(loss(((ONE, TWO), (TWO, TWO), (THREE, TWO, (0, 1))), THREE), ())

    def test_every_point(self):
        for points in shaped(45) + shaped(46, 4):
            for point in points if len(points) > 1 else ():
                told = loss(points, point[0])
                left = taken_out(points, point[0])
                self.check_curve(told)
                self.assertEqual(told, lessened(curve_through(points), curve_through(left)))
                noughts = tuple((each[0],) + ((0, 1),) * (len(each) - 1) for each in left)
                self.assertEqual(missed(noughts, told), [])
        self.check_told_again(loss, POINTS, TWO)


if __name__ == "__main__":
    unittest.main()
