"""What the document promises over the whole program, and the interface's names and arguments."""

import importlib
import inspect
import unittest
from fractions import Fraction

from onecurve.changes import gain, loss, new_steps, put_in, taken_out
from onecurve.curves import added, height_at, lessened, scaled
from onecurve.desk import Desk
from onecurve.even import carried
from onecurve.points import knots_of, missed, told_in
from onecurve.quotients import quotient_through
from onecurve.sent import sent_curve, sent_points
from onecurve.shares import shares_of, weighed
from onecurve.steps import by_steps, curve_through, steps_of
from onecurve.texts import read_number, read_points, show_curve, show_number, show_points
from onecurve.wrong import doubtful, judged
from tests.helper import POINT_SHAPES, CurveChecks, Made, frac, num, powers_sum

INTERFACE = {
    "numbers": "is_number(thing) number_of(top, bottom) plus(a, b) minus(a, b) times(a, b) over(a, b) is_less(a, b)",
    "curves": "curve_of(numbers) height_at(curve, x) added(one, other) lessened(one, other) multiplied(one, other)"
              " scaled(curve, number) slope_of(curve) with_line(curve, a, b)",
    "division": "divided(one, other) common_part(one, other)",
    "points": "points_of(thing) told_in(points) knots_of(points) missed(points, curve)",
    "steps": "table_of(points) steps_of(points) by_steps(knots, steps) curve_through(points)",
    "shares": "shares_of(points) weights_of(places) weighed(places, heights, x)",
    "changes": "put_in(points, point) taken_out(points, x) with_height(points, x, y) with_slope(points, x, slope)"
               " new_steps(points, point) gain(points, x, k, number) loss(points, x)",
    "even": "differences(numbers) carried(numbers, many) summed(curve, place, step)",
    "between": "heights_of(curve, low, high) bounds_of(curve, low, high) halves_of(some)",
    "parted": "lone_part(curve) changes_in(some) pieces_of(curve, low, high) noughts_of(curve, low, high)",
    "wrong": "judged(places, heights, width, most) doubtful(places, width)",
    "quotients": "quotient_through(places, heights, width)",
    "sent": "sent_points(points, a, b, c, d) sent_curve(curve, a, b, c, d)",
    "texts": "show_number(number) show_curve(curve) show_points(points) read_number(text) read_curve(text)"
             " read_points(text)",
    "desk": "Desk(text)",
}


class Interface(unittest.TestCase):
    def test_names_and_arguments(self):
        for module, rows in INTERFACE.items():
            held = importlib.import_module("onecurve." + module)
            for row in rows.replace(") ", ")\n").split("\n"):
                name, arguments = row.rstrip(")").split("(")
                told = list(inspect.signature(getattr(held, name)).parameters)
                self.assertEqual(told, arguments.split(", "), row)
        self.assertEqual(list(inspect.signature(Desk.say).parameters), ["self", "row"])


class OneCurve(CurveChecks, unittest.TestCase):
    def setUp(self):
        made = Made(90)
        self.made = made
        self.all_points = [made.points(shape, figures) for shape in POINT_SHAPES for figures in (1, 4)]

    def test_all_tellings_come_to_the_same(self):
        for points in self.all_points:
            told = curve_through(points)
            desk = Desk(show_points(points))
            self.assertEqual(desk.say("curve"), show_curve(told))
            steps, knots = steps_of(points), knots_of(points)
            shares = shares_of(points)
            for x in [self.made.number(2) for turn in range(3)] + [points[0][0], (0, 1)]:
                height = height_at(told, x)
                self.assertEqual(desk.say("at " + show_number(x)), show_number(height))
                self.assertEqual(height_at(by_steps(knots, steps), x), height)
                total = sum(frac(number) * frac(height_at(share, x))
                            for (place, k, number), share in zip(told_in(points), shares))
                self.assertEqual(num(total), height)
                if len(knots) == len(points):
                    self.assertEqual(weighed(knots, [point[1] for point in points], x), height)
                    top, under, left = quotient_through(knots, [point[1] for point in points], len(points))
                    self.assertEqual((height_at(top, x), height_at(under, x), left), (height, (1, 1), []))

    def test_any_other_curve_of_as_few_numbers_misses_one(self):
        for points in self.all_points:
            told = curve_through(points)
            self.assertEqual(missed(points, told), [])
            for width in range(1, len(knots_of(points)) + 1):
                self.assertNotEqual(missed(points, added(told, self.made.curve(width))), [])

    def test_put_in_taken_out_and_moved(self):
        for points in self.all_points:
            if len(points) > 1:
                place = points[-1][0]
                left = taken_out(points, place)
                self.assertEqual(put_in(left, points[-1]), points)
                self.assertEqual(steps_of(left) + new_steps(left, points[-1]), steps_of(points))
                self.assertEqual(added(curve_through(left), loss(points, place)), curve_through(points))
            x, k, number = told_in(points)[-1]
            share = shares_of(points)[-1]
            more = self.made.number(3)
            self.assertEqual(gain(points, x, k, more), scaled(share, more))

    def test_carried_on_as_the_curve_goes(self):
        heights = [self.made.number(2) for k in range(6)]
        points = tuple((num(Fraction(k, 3) - 2), height) for k, height in enumerate(heights))
        told = curve_through(points)
        for k, height in enumerate(carried(heights, 10)):
            self.assertEqual(frac(height), powers_sum(told, Fraction(k, 3) - 2))

    def test_wrong_heights_up_to_the_bound_and_one_more(self):
        for many, width in ((2, 1), (5, 2), (8, 3), (12, 4), (12, 11)):
            spots = self.made.unlike(many, 2)
            most = (many - width) // 2
            told = self.made.curve(width)
            heights = [height_at(told, x) for x in spots]
            for k in range(most):
                heights[k] = num(frac(heights[k]) + 1)
            self.assertEqual(judged(spots, heights, width, most), ("one", told, sorted(spots[:most], key=frac)))
            heights, one, other = doubtful(spots, width)
            for each in (one, other):
                lost = [x for x, y in zip(spots, heights) if height_at(each, x) != y]
                self.assertLessEqual(len(lost), most + 1)
            self.assertLess(len([x for x in spots if height_at(lessened(one, other), x) == (0, 1)]), width)

    def test_sent_all_goes_along(self):
        way = ((-2, 3), (5, 1), (7, 2), (-1, 4))
        for points in self.all_points:
            sent = sent_points(points, *way)
            self.assertEqual(curve_through(sent), sent_curve(curve_through(points), *way))
            shares = [sent_curve(share, way[0], way[1], (1, 1), (0, 1)) for share in shares_of(points)]
            turned = [scaled(share, way[0]) if k else share for (x, k, number), share in zip(told_in(points), shares)]
            self.assertEqual(shares_of(sent), turned)

    def test_shown_and_read(self):
        for points in self.all_points:
            self.assertEqual(read_points(show_points(points)), points)
            for point in points:
                self.assertEqual(read_number(show_number(point[0])), point[0])


if __name__ == "__main__":
    unittest.main()
