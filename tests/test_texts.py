import unittest
from fractions import Fraction

from onecurve.errors import NoPoints, NoText, TooMany
from onecurve.texts import read_curve, read_number, read_points, show_curve, show_number, show_points
from tests.helper import POINT_SHAPES, SIXTY, CurveChecks, Made, curve, num

ONE, TWO, THREE = (1, 1), (2, 1), (3, 1)
NO_TEXTS = [None, True, False, 0, 5, (1, 1), ((1, 1),), [], ["1"], {}, b"1", 1.5, object(), [["1"]]]
NO_NUMBERS = ["", " ", "-", "+", "/", "01", "00", "-01", "-0", "+1", "+0", "1/1", "-1/1", "0/1", "2/4", "-2/4", "0/2",
              "-0/2", "1/0", "0/0", "1/-2", "-1/-2", "1/+2", "1/02", "01/2", "1/", "/2", "-/2", "1//2", "1/2/3", "--1",
              "1-", "-1-", " 1", "1 ", "- 1", "1 /2", "1/ 2", "1\n", "\n1", "1\t", "a", "1a", "x", "1.5", "1e5", "1_0",
              "0x1", "1,", ",1", "1:", "one", "\u0661", "1\u0662", "\u00b2", "\uff11", "1/\uff12", "\u22121", "6/3",
              "7/7", "True", "None", "(1, 1)"]
TOO_LONG = [str(10 ** 60), str(-10 ** 60), "1" * 61, "1/" + "1" * 61, "1" * 61 + "/2", "-" + "7" * 61 + "/" + "3" * 61,
            "1" * 2000, "0" * 61]


class Number(CurveChecks, unittest.TestCase):
    def test_shown(self):
        for number, text in (((0, 1), "0"), (ONE, "1"), ((-1, 1), "-1"), ((1, 2), "1/2"), ((-3, 2), "-3/2"),
                             ((10, 1), "10"), ((-7, 100), "-7/100"), ((SIXTY, SIXTY - 1), "9" * 60 + "/" + "9" * 59 + "8")):
            self.assertEqual(show_number(number), text)
            self.assertEqual(read_number(text), number)

    def test_read_as_it_was(self):
        made = Made(82)
        for figures in (1, 2, 3, 10, 59, 60):
            for turn in range(40):
                number = made.number(figures)
                told = read_number(show_number(number))
                self.check_number(told)
                self.assertEqual(told, number)
        for number in (num(SIXTY), num(-SIXTY), num(1, SIXTY), num(-SIXTY, 10 ** 59), num(10 ** 59)):
            self.assertEqual(read_number(show_number(number)), number)

    def test_many_figures_are_shown(self):
        self.assertEqual(show_number((-10 ** 3999, 3 ** 5)), "-1" + "0" * 3999 + "/243")

    def test_no_text(self):
        for thing in NO_TEXTS + NO_NUMBERS + TOO_LONG:
            self.check_refused(NoText, read_number, thing)

    def test_lowest_terms(self):
        for top in range(-12, 13):
            for bottom in range(1, 13):
                text = "%d/%d" % (top, bottom)
                if bottom > 1 and Fraction(top, bottom).denominator == bottom:
                    self.assertEqual(read_number(text), (top, bottom))
                else:
                    self.check_refused(NoText, read_number, text)


class Curves(CurveChecks, unittest.TestCase):
    def test_shown(self):
        for told, text in (((), "0"), (curve(1), "1"), (curve(0, 1), "0 1"), (curve(-1, 0, Fraction(1, 2)), "-1 0 1/2")):
            self.assertEqual(show_curve(told), text)
            self.assertEqual(read_curve(text), told)

    def test_read_as_it_was(self):
        made = Made(83)
        for width in range(17):
            for figures in (1, 60):
                for told in (made.curve(width, figures), made.gapped(width)):
                    read = read_curve(show_curve(told))
                    self.check_curve(read)
                    self.assertEqual(read, told)

    def test_no_text(self):
        for thing in NO_TEXTS + TOO_LONG:
            self.check_refused(NoText, read_curve, thing)
        for text in NO_NUMBERS:
            self.check_refused(NoText, read_curve, text)
            self.check_refused(NoText, read_curve, "1 " + text)
            self.check_refused(NoText, read_curve, text + " 1")
        for text in ("0 0", "1 0", "1 2 0", "0 0 0", "1  2", " 1 2", "1 2 ", "1, 2", "1,2", "1:2", "1\n2", "1\t2",
                     "1 2\n", " ".join(["1"] * 17), " ".join(["1"] * 16 + ["0"]), " ".join(["1"] * 200)):
            self.check_refused(NoText, read_curve, text)
        self.assertEqual(read_curve(" ".join(["1"] * 16)), curve(*[1] * 16))


class Points(CurveChecks, unittest.TestCase):
    def test_shown(self):
        for points, text in ((((ONE, TWO),), "1:2"), (((ONE, TWO, THREE),), "1:2:3"),
                             (((ONE, TWO), ((-1, 2), (0, 1), (5, 3))), "1:2, -1/2:0:5/3")):
            self.assertEqual(show_points(points), text)
            self.assertEqual(read_points(text), points)

    def test_read_as_it_was(self):
        made = Made(84)
        for shape in POINT_SHAPES:
            for figures in (1, 60):
                points = made.points(shape, figures)
                told = read_points(show_points(points))
                self.assertIs(type(told), tuple)
                self.assertEqual(told, points)

    def test_no_text(self):
        for thing in NO_TEXTS + TOO_LONG:
            self.check_refused(NoText, read_points, thing)
        for text in NO_NUMBERS + TOO_LONG:
            for row in ("%s:1", "1:%s", "%s:1:2", "1:%s:2", "1:2:%s", "7:8, %s:1", "%s:1, 7:8", "1:2, %s", "%s, 1:2"):
                self.check_refused(NoText, read_points, row % text)

    def test_other_signs(self):
        for text in ("1", "1:2:3:4", "1:2:3:4:5", "1:2,3:4", "1:2,  3:4", "1:2 , 3:4", "1:2,\n3:4", "1:2,", "1:2, ",
                     ", 1:2", "1:2, , 3:4", "1:2; 3:4", "1:2 3:4", "1::2", ":1:2", "1:2:", "1 : 2", "1: 2", "1 :2",
                     " 1:2", "1:2 ", "1:2\n", "1,2", "(1:2)", "1:2, 3", "1:2, 3:4:5:6", ":", ", ", "1:2, 3:4,"):
            self.check_refused(NoText, read_points, text)

    def test_then_as_points_are(self):
        for text in ("1:2, 1:2", "1:2, 1:3", "1:2, 3:4, 1:2:3", "1/2:1, 1/2:1"):
            self.check_refused(NoPoints, read_points, text)
        many = ", ".join("%d:%d" % (k, k * k) for k in range(12))
        self.assertEqual(len(read_points(many)), 12)
        self.check_refused(TooMany, read_points, many + ", 12:1")
        self.check_refused(TooMany, read_points, many.replace("3:9", "3:9:1"))
        self.check_refused(NoPoints, read_points, many + ", 12:1, 5:1")
        self.check_refused(NoText, read_points, many + ", 12:1, 5:1, 2")
        self.check_refused(NoText, read_points, "1:2, 1:2, 2/4:1")
        self.check_refused(NoText, read_points, many + ", 12:1, 13:2/4")


if __name__ == "__main__":
    unittest.main()
