import itertools
import unittest
from fractions import Fraction

from onecurve.curves import added, height_at
from onecurve.points import knots_of, missed, points_of
from onecurve.steps import by_steps, curve_through, steps_of, table_of
from tests.helper import (POINT_SHAPES, CurveChecks, Made, curve, frac, num, other_curve_through, places, powers_sum,
                          told_numbers)

ONE, TWO, THREE = (1, 1), (2, 1), (3, 1)


def other_table(points):
    """The table straight by the words of point 10, knot by knot, over Fractions."""
    told = told_numbers(points)
    knots = [x for x, k, number in told]
    height = {x: number for x, k, number in told if k == 0}
    slope = {x: number for x, k, number in told if k == 1}
    table = [{j: height[x] for j, x in enumerate(knots)}]
    for k in range(1, len(knots)):
        row = {}
        for j in range(k, len(knots)):
            if knots[j] == knots[j - k]:
                row[j] = slope[knots[j]]
            else:
                row[j] = (table[k - 1][j] - table[k - 1][j - 1]) / (knots[j] - knots[j - k])
        table.append(row)
    return [[num(value) for value in row.values()] for row in table]


class TableOf(CurveChecks, unittest.TestCase):
    def test_ordinary(self):
        points = (((0, 1), ONE), (ONE, TWO), (THREE, (10, 1)))
        self.assertEqual(table_of(points), [[ONE, TWO, (10, 1)], [ONE, (4, 1)], [ONE]])

    def test_a_slope_where_two_knots_are_alike(self):
        points = ((ONE, TWO, (5, 1)), (THREE, TWO, (7, 2)))
        self.assertEqual(table_of(points), [[TWO, TWO, TWO, TWO], [(5, 1), (0, 1), (7, 2)],
                                            [(-5, 2), (7, 4)], [(17, 8)]])

    def test_of_one_point(self):
        self.assertEqual(table_of(((ONE, TWO),)), [[TWO]])
        self.assertEqual(table_of(((ONE, TWO, THREE),)), [[TWO, TWO], [THREE]])
        self.assertEqual(table_of(((ONE, (0, 1), (0, 1)),)), [[(0, 1), (0, 1)], [(0, 1)]])

    def test_every_shape(self):
        made = Made(25)
        for shape in POINT_SHAPES:
            for figures in (1, 6):
                points = made.points(shape, figures)
                table = table_of(points)
                many = len(knots_of(points))
                self.assertIs(type(table), list)
                self.assertEqual([len(row) for row in table], list(range(many, 0, -1)))
                self.assertEqual(table, other_table(points))
                self.assertEqual(steps_of(points), [row[0] for row in table])
                self.check_told_again(table_of, points)
                self.check_told_again(steps_of, points)


class BySteps(CurveChecks, unittest.TestCase):
    def check_by_steps(self, knots, steps):
        told = by_steps(knots, steps)
        self.check_curve(told)
        self.assertLessEqual(len(told), len(steps))
        for x in places(len(steps) + 1):
            height, product = Fraction(0), Fraction(1)
            for knot, step in zip(knots, steps):
                height += frac(step) * product
                product *= x - frac(knot)
            self.assertEqual(powers_sum(told, x), height)
        self.check_told_again(by_steps, list(knots), list(steps))

    def test_ordinary(self):
        self.assertEqual(by_steps([ONE, TWO, THREE], [(5, 1), (0, 1), (1, 2)]), curve(6, Fraction(-3, 2), Fraction(1, 2)))

    def test_of_none_the_nought_curve(self):
        self.assertEqual(by_steps([], []), ())

    def test_the_last_knot_does_not_matter(self):
        for knot in (ONE, (-7, 3), (0, 1)):
            self.assertEqual(by_steps([knot], [(5, 2)]), ((5, 2),))
            self.assertEqual(by_steps([TWO, knot], [(5, 2), ONE]), curve(Fraction(1, 2), 1))

    def test_steps_nought(self):
        self.assertEqual(by_steps([ONE], [(0, 1)]), ())
        self.assertEqual(by_steps([ONE, TWO, THREE], [(0, 1)] * 3), ())
        self.assertEqual(by_steps([ONE, TWO, THREE], [TWO, (0, 1), (0, 1)]), curve(2))
        self.check_by_steps([ONE, TWO, THREE], [(0, 1), (0, 1), TWO])
        self.check_by_steps([ONE, TWO, THREE], [(0, 1), (1, 3), (0, 1)])

    def test_knots_that_are_alike(self):
        self.assertEqual(by_steps([TWO] * 4, [(0, 1), (0, 1), (0, 1), ONE]), curve(-8, 12, -6, 1))
        self.check_by_steps([(1, 3)] * 5, [(2, 5), ONE, (0, 1), (-1, 2), THREE])
        self.check_by_steps([ONE, (1, 3), ONE, (1, 3), ONE], [(2, 5), ONE, (7, 3), (-1, 2), THREE])

    def test_many(self):
        made = Made(26)
        for many in (1, 2, 3, 5, 8, 12, 13, 16):
            for figures in (1, 9):
                self.check_by_steps([made.number(figures) for k in range(many)],
                                    [made.number(figures) for k in range(many)])

    def test_two_hundred(self):
        knots = [num(k % 7 - 3, 1 + k % 2) for k in range(200)]
        told = by_steps(knots, [num(k % 3, 1 + k % 5) for k in range(199)] + [ONE])
        self.check_curve(told)
        self.assertEqual(len(told), 200)
        self.assertEqual(told[-1], ONE)


class CurveThrough(CurveChecks, unittest.TestCase):
    def check_curve_through(self, points):
        told = curve_through(points)
        self.check_curve(told)
        self.assertEqual(missed(points, told), [])
        self.assertLessEqual(len(told), len(knots_of(points)))
        self.assertEqual(told, by_steps(knots_of(points), steps_of(points)))
        return told

    def test_ordinary(self):
        self.assertEqual(curve_through((((0, 1), ONE), (ONE, TWO), (THREE, (10, 1)))), curve(1, 0, 1))
        self.assertEqual(curve_through(((ONE, TWO),)), curve(2))
        self.assertEqual(curve_through(((ONE, TWO, THREE),)), curve(-1, 3))
        self.assertEqual(curve_through(((ONE, (0, 1)),)), ())
        self.assertEqual(curve_through(((ONE, TWO), (TWO, TWO), (THREE, TWO, (0, 1)))), curve(2))

    def test_every_shape(self):
        made = Made(27)
        for shape in POINT_SHAPES:
            for figures in (1, 7):
                points = made.points(shape, figures)
                self.assertEqual(self.check_curve_through(points), other_curve_through(points))
                self.check_told_again(curve_through, points)

    def test_points_of_a_narrow_curve(self):
        made = Made(28)
        for width in range(0, 7):
            told = made.curve(width)
            spots = made.unlike(7)
            points = tuple((x, num(powers_sum(told, frac(x)))) for x in spots)
            self.assertEqual(self.check_curve_through(points), told)

    def test_any_other_curve_of_so_few_numbers_misses_one(self):
        made = Made(29)
        for shape in POINT_SHAPES:
            points = made.points(shape)
            many = len(knots_of(points))
            told = curve_through(points)
            for width in range(1, many + 1):
                other = added(told, made.curve(width))
                self.assertLessEqual(len(other), many)
                lost = missed(points, other)
                self.assertGreaterEqual(len(lost), 1)
                shared = [point[0] for point in points if (point[0], 0) not in lost]
                self.assertLess(len(shared), width)

    def test_alike_in_every_order(self):
        made = Made(30)
        for shape in (".", "..", "./", "...", "/./", "./..", "//"):
            points = made.points(shape)
            told, step = curve_through(points), steps_of(points)[-1]
            for order in itertools.permutations(points):
                self.assertEqual(curve_through(order), told)
                self.assertEqual(steps_of(order)[-1], step)

    def test_alike_in_some_orders_of_twelve(self):
        points = Made(31).points("............", 3)
        told, step = curve_through(points), steps_of(points)[-1]
        for order in (points[::-1], points[5:] + points[:5], points[::2] + points[1::2]):
            self.assertEqual(curve_through(order), told)
            self.assertEqual(steps_of(order)[-1], step)

    def test_sixty_figures(self):
        made = Made(32)
        for shape in ("...", "/.", "../."):
            points = made.points(shape, 60)
            self.assertEqual(self.check_curve_through(points), other_curve_through(points))
        self.check_curve_through(made.points("......./", 60))

    def test_points_made_of_a_list(self):
        things = [(ONE, TWO), (TWO, ONE, THREE)]
        points = points_of(things)
        told = curve_through(points)
        things.reverse()
        things.pop()
        self.assertEqual(curve_through(points), told)
        self.assertEqual(height_at(told, ONE), TWO)


if __name__ == "__main__":
    unittest.main()
