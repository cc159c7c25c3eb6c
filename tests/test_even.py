import unittest
from fractions import Fraction

from onecurve.curves import height_at, lessened, with_line
from onecurve.errors import NoNumber
from onecurve.even import carried, differences, summed
from onecurve.steps import curve_through
from tests.helper import SIXTY, CurveChecks, Made, curve, frac, num, places, powers_sum

ONE, TWO, THREE = (1, 1), (2, 1), (3, 1)
HALF = Fraction(1, 2)


class Differences(CurveChecks, unittest.TestCase):
    def test_ordinary(self):
        self.assertEqual(differences([ONE, (4, 1), (9, 1)]), [[ONE, (4, 1), (9, 1)], [THREE, (5, 1)], [TWO]])
        self.assertEqual(differences([(1, 2), (1, 3)]), [[(1, 2), (1, 3)], [(-1, 6)]])
        self.assertEqual(differences([(-5, 7)]), [[(-5, 7)]])
        self.assertEqual(differences([TWO, TWO, TWO]), [[TWO, TWO, TWO], [(0, 1), (0, 1)], [(0, 1)]])

    def test_one_to_twelve(self):
        made = Made(50)
        for many in range(1, 13):
            for figures in (1, 60):
                numbers = [made.number(figures) for k in range(many)]
                rows = differences(numbers)
                self.assertIs(type(rows), list)
                self.assertEqual([len(row) for row in rows], list(range(many, 0, -1)))
                self.assertEqual(rows[0], numbers)
                for ahead, row in zip(rows, rows[1:]):
                    self.assertIs(type(row), list)
                    self.assertEqual(row, [num(frac(ahead[k]) - frac(ahead[k - 1])) for k in range(1, len(ahead))])
                self.check_told_again(differences, numbers)

    def test_the_first_row_is_not_the_list_handed_in(self):
        numbers = [ONE, TWO]
        rows = differences(numbers)
        rows[0].append(THREE)
        self.assertEqual(numbers, [ONE, TWO])


class Carried(CurveChecks, unittest.TestCase):
    def test_ordinary(self):
        self.assertEqual(carried([ONE, (4, 1), (9, 1)], 3), [ONE, (4, 1), (9, 1), (16, 1), (25, 1), (36, 1)])
        self.assertEqual(carried([(1, 2)], 2), [(1, 2)] * 3)
        self.assertEqual(carried([(1, 2), (1, 3)], 2), [(1, 2), (1, 3), (1, 6), (0, 1)])

    def test_by_none(self):
        numbers = [ONE, (5, 3), (-2, 1)]
        told = carried(numbers, 0)
        self.assertEqual(told, numbers)
        told.append(ONE)
        self.assertEqual(numbers, [ONE, (5, 3), (-2, 1)])

    def test_the_last_number_stays_alike(self):
        made = Made(51)
        for many in range(1, 13):
            numbers = [made.number(2) for k in range(many)]
            last = differences(numbers)[-1]
            for more in (0, 1, 2, 40):
                told = carried(numbers, more)
                self.assertIs(type(told), list)
                self.assertEqual(len(told), many + more)
                self.assertEqual(told[:many], numbers)
                for number in told:
                    self.check_number(number)
                self.assertEqual(differences(told)[many - 1], last * (more + 1))
                self.check_told_again(carried, numbers, more)

    def test_heights_of_their_curve_further_on(self):
        made = Made(52)
        for many in (1, 2, 5, 12):
            for step in (Fraction(1), Fraction(-2, 3)):
                start = frac(made.number())
                spots = [num(start + k * step) for k in range(many + 40)]
                heights = [made.number(3) for k in range(many)]
                told = curve_through(tuple(zip(spots, heights)))
                self.assertEqual(carried(heights, 40), [height_at(told, x) for x in spots])

    def test_sixty_figures(self):
        made = Made(53)
        numbers = [made.number(60) for k in range(12)]
        told = curve_through(tuple(((k, 1), number) for k, number in enumerate(numbers)))
        self.assertEqual(carried(numbers, 40)[-1], height_at(told, (51, 1)))


class Summed(CurveChecks, unittest.TestCase):
    def check_summed(self, told, place, step):
        made = summed(told, place, step)
        self.check_curve(made)
        self.assertLessEqual(len(made), len(told) + 1)
        total = Fraction(0)
        for m in range(len(told) + 3):
            self.assertEqual(powers_sum(made, Fraction(m)), total)
            total += powers_sum(told, frac(place) + m * frac(step))
        for x in places(3):
            self.assertEqual(powers_sum(made, x + 1) - powers_sum(made, x),
                             powers_sum(told, frac(place) + x * frac(step)))
        self.assertEqual(lessened(with_line(made, ONE, ONE), made), with_line(told, step, place))
        self.check_told_again(summed, told, place, step)

    def test_ordinary(self):
        self.assertEqual(summed(curve(0, 1), (0, 1), ONE), curve(0, -HALF, HALF))
        self.assertEqual(summed(curve(0, 1), ONE, ONE), curve(0, HALF, HALF))
        self.assertEqual(summed(curve(3), (9, 1), (5, 1)), curve(0, 3))
        self.assertEqual(summed(curve(0, 0, 1), ONE, ONE), curve(0, Fraction(1, 6), HALF, Fraction(1, 3)))

    def test_many(self):
        made = Made(54)
        for width in range(1, 9):
            for step in (ONE, (-1, 1), (2, 3), (-7, 2), made.other_than_nought(9)):
                self.check_summed(made.curve(width), made.number(), step)
        self.check_summed(made.gapped(12), (0, 1), (1, 3))
        self.check_summed(made.curve(16, 2), (-4, 3), (-2, 1))
        self.check_summed(made.curve(16, 60), (SIXTY, 2), (-1, SIXTY))

    def test_nought_curve(self):
        for step in (ONE, (-1, 2)):
            self.assertEqual(summed((), (5, 1), step), ())

    def test_a_step_of_nought_is_refused(self):
        for told in ((), curve(1), curve(0, 1, 2)):
            for place in ((0, 1), (-5, 3)):
                self.check_refused(NoNumber, summed, told, place, (0, 1))


if __name__ == "__main__":
    unittest.main()
