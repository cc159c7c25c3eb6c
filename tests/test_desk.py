import unittest

from onecurve.between import bounds_of
from onecurve.curves import curve_of, height_at, slope_of
from onecurve.desk import Desk
from onecurve.errors import CurveError, NoCurve, NoPoint, NoPoints, NoRow, NoStretch, NoText, TooDeep, TooFew, TooMany
from onecurve.parted import noughts_of
from onecurve.points import missed
from onecurve.quotients import quotient_through
from onecurve.steps import curve_through, steps_of
from onecurve.texts import read_points, show_curve, show_number, show_points
from onecurve.wrong import judged
from tests.helper import POINT_SHAPES, CurveChecks, Made

SOME = "0:1, 1:2:5, 3:10"
TWELVE = ", ".join("%d:%d" % (k, k * k) for k in range(12))
SIX = 999999
ASKING = ["points", "curve", "steps", "at 1/2", "slopeat 1/2", "misses 1 2", "bounds 0 1", "noughts 0 1", "wrong 1 0",
          "quotient 1"]
CHANGING = ["put 7 1", "put 7 1 2", "take 1", "height 1 5", "slope 1 5", "noslope 1"]


def shown(numbers):
    return " ".join(show_number(number) for number in numbers)


def answers(points):
    """What a desk of these points has to answer to rows that ask, by the modules behind it."""
    told = curve_through(points)
    answer = {"points": show_points(points), "curve": show_curve(told), "steps": shown(steps_of(points))}
    for x in ((0, 1), (-7, 3), points[0][0], (SIX, SIX - 1)):
        answer["at " + show_number(x)] = show_number(height_at(told, x))
        answer["slopeat " + show_number(x)] = show_number(height_at(slope_of(told), x))
    for numbers in ([(0, 1)], [points[0][1]], [(1, 1), (-1, 2), (0, 1)], [(0, 1)] * 16, list(told)[:16]):
        if all(max(abs(number[0]), number[1]) <= SIX for number in numbers) and numbers:
            lost = missed(points, curve_of(numbers))
            row = "misses " + shown(numbers)
            answer[row] = " ".join("%s;%d" % (show_number(x), k) for x, k in lost) if lost else "none"
    for low, high in (((0, 1), (1, 1)), ((-5, 2), (1, 3))):
        answer["bounds " + shown([low, high])] = shown(bounds_of(told, low, high))
        if told:
            try:
                answer["noughts " + shown([low, high])] = str(noughts_of(told, low, high))
            except TooDeep:
                pass
    if all(len(point) == 2 for point in points):
        answer.update(plain_answers(points))
    return answer


def plain_answers(points):
    answer = {}
    spots, heights = [point[0] for point in points], [point[1] for point in points]
    for width in range(1, len(points) + 1):
        top, under, left = quotient_through(spots, heights, width)
        answer["quotient %d" % width] = show_curve(top) + " | " + show_curve(under) + (
            "; " + shown(left) if left else "")
        for most in range((len(points) - width) // 2 + 1):
            kind, told, wrong = judged(spots, heights, width, most)
            row = "wrong %d %d" % (width, most)
            answer[row] = "none" if kind == "none" else show_curve(told) + ";" + "".join(
                " " + show_number(x) for x in wrong)
    return answer


class Making(CurveChecks, unittest.TestCase):
    def test_of_a_text(self):
        for text in ("1:2", "1:2:3", SOME, TWELVE, "-1/2:999999/999998, 999999:-999999:1/999999"):
            self.assertEqual(Desk(text).say("points"), text)

    def test_no_text(self):
        for thing in (None, True, 5, [], ["1:2"], ((1, 1),), {}, b"1:2", "", " ", "1", "1:2:3:4", "1:2,3:4", "1:2/4",
                      "1:02", "1:-0", "1:2, ", "1:2\n", "1:a"):
            self.check_refused(NoText, Desk, thing)

    def test_seven_figures(self):
        for number in ("1000000", "-1000000", "1/1000000", "1000001/2", "9999999", "1" * 60):
            for row in ("%s:1", "1:%s", "1:2:%s", "1:2, 3:%s", "1:2, 1:%s", TWELVE + ", 12:1, %s:1", TWELVE + ", 1:%s"):
                self.check_refused(NoText, Desk, row % number)
        self.assertEqual(Desk("999999:-999999").say("curve"), "-999999")

    def test_then_as_points_are(self):
        self.check_refused(NoPoints, Desk, "1:2, 1:2")
        self.check_refused(NoPoints, Desk, TWELVE + ", 12:1, 1:1")
        self.check_refused(TooMany, Desk, TWELVE + ", 12:1")
        self.check_refused(TooMany, Desk, TWELVE.replace("3:9", "3:9:1"))


class Asking(CurveChecks, unittest.TestCase):
    def check_answers(self, desk, points):
        for row, answer in answers(points).items():
            self.assertEqual(desk.say(row), answer, row)
            self.assertEqual(desk.say(row), answer, row)

    def test_written_answers(self):
        desk = Desk("0:1, 1:2, 3:10")
        for row, answer in (("points", "0:1, 1:2, 3:10"), ("curve", "1 0 1"), ("steps", "1 1 1"), ("at 1/2", "5/4"),
                            ("slopeat 1/2", "1"), ("slopeat -3", "-6"), ("misses 1 1", "3;0"), ("misses 0", "0;0 1;0 3;0"),
                            ("misses 1 0 1", "none"), ("misses 1 0 1 0 0", "none"), ("bounds -1 1", "0 2"),
                            ("bounds -1 2", "-1 5"), ("noughts -9 9", "0"), ("wrong 3 0", "1 0 1;"), ("wrong 1 1", "none"),
                            ("quotient 3", "1 0 1 | 1"), ("quotient 1", "10 | 10 -6 1")):
            self.assertEqual(desk.say(row), answer, row)

    def test_wrong_places_and_places_left(self):
        desk = Desk("5:100, 1:1, 2:2, -3:7, 3:3, 4:4")
        self.assertEqual(desk.say("wrong 2 2"), "0 1; -3 5")
        self.assertEqual(desk.say("wrong 1 0"), "none")
        self.assertEqual(Desk("3:2, 1:0, 2:0").say("quotient 2"), "0 | 1; 3")
        self.assertEqual(Desk("3:2, 1:0, 2:0").say("quotient 1"), "0 | 1; 3")
        self.assertEqual(Desk("1:1, 2:1/2, 3:1/3").say("quotient 1"), "1 | 0 1")
        self.assertEqual(Desk("1:0, 2:0, 3:0").say("wrong 1 1"), "0;")
        self.assertEqual(Desk("1:0, 2:5, 3:0").say("wrong 1 1"), "0; 2")

    def test_misses_heights_and_slopes(self):
        desk = Desk("1/2:2:1, 0:1, 2:2:1")
        self.assertEqual(desk.say("misses 2"), "1/2;1 0;0 2;1")
        self.assertEqual(desk.say("misses 1 1"), "1/2;0 2;0")
        self.assertEqual(desk.say("misses " + " ".join(["0"] * 16)), "1/2;0 1/2;1 0;0 2;0 2;1")

    def test_every_shape(self):
        made = Made(85)
        for shape in POINT_SHAPES:
            points = made.points(shape)
            self.check_answers(Desk(show_points(points)), points)
        points = made.points("......", 6)
        self.check_answers(Desk(show_points(points)), points)

    def test_nought_curve(self):
        desk = Desk("1:0, 2:0:0")
        self.assertEqual(desk.say("curve"), "0")
        self.assertEqual(desk.say("bounds 0 1"), "0 0")
        self.assertEqual(desk.say("at 5"), "0")
        self.assertEqual(desk.say("slopeat 5"), "0")
        self.assertEqual(desk.say("steps"), "0 0 0")


class Changing(CurveChecks, unittest.TestCase):
    def check_changes(self, text, row, awaited):
        desk = Desk(text)
        self.assertEqual(desk.say(row), "ok")
        self.assertEqual(desk.say("points"), awaited)
        for asked, answer in answers(read_points(awaited)).items():
            self.assertEqual(desk.say(asked), answer, asked)

    def test_each_row(self):
        self.check_changes(SOME, "put -1/2 4", SOME + ", -1/2:4")
        self.check_changes(SOME, "put 7 4 -5/3", SOME + ", 7:4:-5/3")
        self.check_changes(SOME, "take 1", "0:1, 3:10")
        self.check_changes(SOME, "take 0", "1:2:5, 3:10")
        self.check_changes(SOME, "height 1 -2/3", "0:1, 1:-2/3:5, 3:10")
        self.check_changes(SOME, "height 3 0", "0:1, 1:2:5, 3:0")
        self.check_changes(SOME, "slope 1 0", "0:1, 1:2:0, 3:10")
        self.check_changes(SOME, "slope 3 1/7", "0:1, 1:2:5, 3:10:1/7")
        self.check_changes(SOME, "noslope 1", "0:1, 1:2, 3:10")
        self.check_changes(SOME, "noslope 3", SOME)

    def test_one_behind_the_other(self):
        desk = Desk("1:2")
        for row, awaited in (("put 2 3", "1:2, 2:3"), ("put 3 4 1", "1:2, 2:3, 3:4:1"), ("slope 2 -1", "1:2, 2:3:-1, 3:4:1"),
                             ("height 2 1/2", "1:2, 2:1/2:-1, 3:4:1"), ("take 1", "2:1/2:-1, 3:4:1"),
                             ("noslope 3", "2:1/2:-1, 3:4"), ("take 2", "3:4"), ("put 1 1", "3:4, 1:1")):
            self.assertEqual(desk.say(row), "ok")
            for asked, answer in answers(read_points(awaited)).items():
                self.assertEqual(desk.say(asked), answer, asked)

    def test_two_desks(self):
        one, other = Desk(SOME), Desk(SOME)
        self.assertEqual(one.say("take 1"), "ok")
        self.assertEqual(other.say("points"), SOME)
        self.assertEqual(other.say("put 5 5"), "ok")
        self.assertEqual(one.say("points"), "0:1, 3:10")
        self.assertEqual(Desk(SOME).say("points"), SOME)


class Refusing(CurveChecks, unittest.TestCase):
    def check_row_refused(self, kind, text, row):
        desk = Desk(text)
        self.check_refused(kind, desk.say, row)
        self.assertEqual(desk.say("points"), text)
        self.assertEqual(desk.say("curve"), Desk(text).say("curve"))

    def test_no_text(self):
        for row in (None, True, 5, [], ["points"], ("points",), {}, b"points", object(), [["points"]]):
            self.check_row_refused(NoRow, SOME, row)

    def test_other_first_words(self):
        for row in ("", " ", "point", "Points", "POINTS", "ok", "1", "puts 1 2", "slopes", "help", "none", "\n", "at\n1",
                    "points\n", "\tpoints", "put:1:2", "curve;", "__init__", "say"):
            self.check_row_refused(NoRow, SOME, row)

    def test_how_many_words(self):
        rows = ["put", "put 7", "put 7 1 2 3", "take", "take 1 2", "height", "height 1", "height 1 2 3", "slope", "slope 1",
                "slope 1 2 3", "noslope", "noslope 1 2", "points 1", "curve 1", "steps 1", "at", "at 1 2", "slopeat",
                "slopeat 1 2", "misses", "misses " + " ".join(["1"] * 17), "misses " + " ".join(["0"] * 17), "bounds",
                "bounds 1", "bounds 1 2 3", "noughts", "noughts 1", "noughts 1 2 3", "wrong", "wrong 1", "wrong 1 0 1",
                "quotient", "quotient 1 1"]
        for row in rows:
            self.check_row_refused(NoRow, SOME, row)
            self.check_row_refused(NoRow, "0:1, 1:2, 3:10", row)

    def test_blanks(self):
        for row in ASKING + CHANGING:
            for other in (" " + row, row + " ", row.replace(" ", "  ", 1) if " " in row else row + "  ",
                          row.replace(" ", "\n", 1) if " " in row else row + "\n", row.replace(" ", "\t") + "\t"):
                self.check_row_refused(NoRow, "0:1, 1:2, 3:10", other)

    def test_words_that_are_no_numbers(self):
        for row in ASKING + CHANGING:
            words = row.split(" ")
            for at in range(1, len(words)):
                for word in ("", "a", "2/4", "1/1", "-0", "01", "+1", "1/0", "1/-2", "1.5", "1000000", "-1000000", "1/1000000",
                             "1000001/2", "1" * 60, "1:2", "1;0", "None", "\uff11", "1,", "1\n"):
                    self.check_row_refused(NoRow, "0:1, 1:2, 3:10", " ".join(words[:at] + [word] + words[at + 1:]))

    def test_no_row_goes_first(self):
        self.check_row_refused(NoRow, TWELVE, "put 1 a")
        self.check_row_refused(NoRow, TWELVE, "put 50 1 1000000")
        self.check_row_refused(NoRow, SOME, "take 1000000")
        self.check_row_refused(NoRow, SOME, "wrong 0 0")
        self.check_row_refused(NoRow, SOME, "quotient 0")
        self.check_row_refused(NoRow, "1:0", "noughts 2 1/1")

    def test_whole_numbers(self):
        for row in ("wrong 0 0", "wrong -1 0", "wrong 1/2 0", "wrong 3/2 0", "wrong 1 -1", "wrong 1 1/2", "wrong 1 -1/2",
                    "wrong 1000000 0", "wrong 1 1000000", "quotient 0", "quotient -1", "quotient 1/2", "quotient 3/2",
                    "quotient 1000000", "wrong 01 0", "wrong 1 00", "wrong 1 -0"):
            self.check_row_refused(NoRow, "0:1, 1:2, 3:10", row)
            self.check_row_refused(NoRow, SOME, row)

    def test_no_point(self):
        for row in ("take 7", "height 7 1", "slope 7 1", "noslope 7", "take 1/2"):
            for text in (SOME, "1:2", TWELVE.replace("7:49", "17:1")):
                self.check_row_refused(NoPoint, text, row)

    def test_no_points(self):
        self.check_row_refused(NoPoints, "1:2", "take 1")
        self.check_row_refused(NoPoints, "1:2:3", "take 1")
        for row in ("put 1 5", "put 1 2", "put 3 1 1", "put 0 1"):
            self.check_row_refused(NoPoints, SOME, row)
            self.check_row_refused(NoPoints, TWELVE, row)
        for row in ("wrong 1 0", "wrong 100 100", "quotient 1", "quotient 100"):
            self.check_row_refused(NoPoints, SOME, row)

    def test_too_many(self):
        self.check_row_refused(TooMany, TWELVE, "put 12 1")
        self.check_row_refused(TooMany, TWELVE, "put 12 1 1")
        self.check_row_refused(TooMany, TWELVE, "slope 3 1")
        self.check_row_refused(TooMany, TWELVE[:TWELVE.rindex(",")], "put 12 1 1")

    def test_no_stretch(self):
        for row in ("bounds 1 1", "bounds 2 1", "bounds 1/2 1/3", "noughts 1 1", "noughts 2 1"):
            self.check_row_refused(NoStretch, SOME, row)
        self.check_row_refused(NoStretch, "1:0", "bounds 1 1")

    def test_no_curve(self):
        for row in ("noughts 0 1", "noughts 1 0", "noughts 1 1"):
            self.check_row_refused(NoCurve, "1:0, 2:0:0", row)

    def test_too_deep(self):
        self.check_row_refused(TooDeep, "1/999999:0, 1/999998:0, 1:1", "noughts -1 1")
        self.check_row_refused(NoStretch, "1/999999:0, 1/999998:0, 1:1", "noughts 1 -1")

    def test_too_few(self):
        for row in ("wrong 4 0", "wrong 1 2", "wrong 2 1", "wrong 999999 999999", "quotient 4", "quotient 999999"):
            self.check_row_refused(TooFew, "0:1, 1:2, 3:10", row)

    def test_errors_are_refusals(self):
        desk = Desk(SOME)
        for row in (None, "take 7", "wrong 1 0"):
            with self.assertRaises(CurveError):
                desk.say(row)


if __name__ == "__main__":
    unittest.main()
