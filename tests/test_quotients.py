import itertools
import unittest
from fractions import Fraction

from onecurve.curves import curve_of, multiplied, scaled
from onecurve.division import common_part, divided
from onecurve.errors import NoPoints, TooFew
from onecurve.numbers import over
from onecurve.quotients import quotient_through
from onecurve.steps import curve_through
from tests.helper import CurveChecks, Made, curve, frac, num, powers_sum

ONE, TWO, THREE = (1, 1), (2, 1), (3, 1)
THIRTEEN = [(k, 1) for k in range(13)]


def one_answer(rows, wide):
    """Some answer, not all nought, of equations that come to 0, with less equations than unknowns."""
    rows = [list(row) for row in rows]
    leads = []
    for k in range(wide):
        lead = next((j for j in range(len(leads), len(rows)) if rows[j][k] != 0), None)
        if lead is None:
            continue
        at = len(leads)
        rows[at], rows[lead] = rows[lead], rows[at]
        rows[at] = [value / rows[at][k] for value in rows[at]]
        for j in range(len(rows)):
            if j != at:
                often = rows[j][k]
                rows[j] = [value - often * other for value, other in zip(rows[j], rows[at])]
        leads.append(k)
    free = next(k for k in range(wide - 1, -1, -1) if k not in leads)
    answer = [Fraction(0)] * wide
    answer[free] = Fraction(1)
    for at, k in enumerate(leads):
        answer[k] = -rows[at][free]
    return answer


def other_quotient(spots, heights, width):
    """Point 27 by its words: some P and Q, their common part divided out, Q's last number made 1."""
    rest = len(spots) - width + 1
    rows = [[frac(x) ** k for k in range(width)] + [-frac(y) * frac(x) ** k for k in range(rest)]
            for x, y in zip(spots, heights)]
    answer = [num(value) for value in one_answer(rows, width + rest)]
    top, under = curve_of(answer[:width]), curve_of(answer[width:])
    shared = common_part(top, under)
    top, under = divided(top, shared)[0], divided(under, shared)[0]
    turned = over(ONE, under[-1])
    return scaled(top, turned), scaled(under, turned)


class QuotientThrough(CurveChecks, unittest.TestCase):
    def check_quotient(self, spots, heights, width):
        told = quotient_through(spots, heights, width)
        self.assertIs(type(told), tuple)
        top, under, left = told
        self.check_curve(top)
        self.check_curve(under)
        self.assertEqual(common_part(top, under), curve(1))
        self.assertEqual(under[-1], ONE)
        self.assertLessEqual(len(top), width)
        self.assertLessEqual(len(under), len(spots) - width + 1)
        if top == ():
            self.assertEqual(under, curve(1))
        self.assertIs(type(left), list)
        awaited = []
        for x, y in zip(spots, heights):
            below = powers_sum(under, frac(x))
            if below == 0 or powers_sum(top, frac(x)) / below != frac(y):
                awaited.append(x)
        self.assertEqual(left, sorted(awaited, key=frac))
        self.check_told_again(quotient_through, list(spots), list(heights), width)
        return told

    def test_ordinary(self):
        spots = [ONE, TWO, THREE]
        self.assertEqual(quotient_through(spots, [ONE, (1, 2), (1, 3)], 1), (curve(1), curve(0, 1), []))
        self.assertEqual(quotient_through(spots, [ONE, (1, 2), (1, 3)], 2), (curve(1), curve(0, 1), []))
        self.assertEqual(quotient_through(spots, [ONE, (4, 1), (9, 1)], 3), (curve(0, 0, 1), curve(1), []))
        self.assertEqual(quotient_through([ONE], [THREE], 1), (curve(3), curve(1), []))

    def test_left_places(self):
        told = quotient_through([THREE, ONE, TWO], [TWO, (0, 1), (0, 1)], 2)
        self.assertEqual(told, ((), curve(1), [THREE]))
        self.assertEqual(quotient_through([TWO, ONE], [(0, 1), ONE], 1), ((), curve(1), [ONE]))
        self.assertEqual(quotient_through([ONE, TWO, THREE], [ONE, TWO, TWO], 2)[2], [ONE])

    def test_heights_of_a_drawn_quotient(self):
        made = Made(70)
        for many in (1, 2, 3, 5, 8, 12):
            for width in range(1, many + 1):
                top = made.curve(made.source.randint(0, width))
                under = made.curve(made.source.randint(1, many - width + 1))
                spots = [x for x in made.unlike(many + 15, 2) if powers_sum(under, frac(x)) != 0][:many]
                heights = [num(powers_sum(top, frac(x)) / powers_sum(under, frac(x))) for x in spots]
                told = self.check_quotient(spots, heights, width)
                self.assertEqual(told[2], [])
                self.assertEqual(multiplied(told[0], under), multiplied(told[1], top))

    def test_against_any_other_pair(self):
        made = Made(71)
        some_left = 0
        for turn in range(150):
            many = made.source.randint(1, 7)
            spots = made.unlike(many)
            heights = [num(made.source.randint(-1, 2)) for k in range(many)]
            for width in range(1, many + 1):
                told = self.check_quotient(spots, heights, width)
                self.assertEqual(told[:2], other_quotient(spots, heights, width))
                some_left += told[2] != []
        self.assertGreater(some_left, 20)

    def test_a_drawn_quotient_with_some_heights_wrong(self):
        made = Made(72)
        for wrong in (1, 2, 3):
            top, under = made.curve(2), made.curve(2)
            spots = [x for x in made.unlike(20, 2) if powers_sum(under, frac(x)) != 0][:9]
            heights = [num(powers_sum(top, frac(x)) / powers_sum(under, frac(x))) for x in spots]
            for k in range(wrong):
                heights[2 * k] = num(frac(heights[2 * k]) + 1)
            told = self.check_quotient(spots, heights, 5)
            self.assertEqual(told[2], sorted(spots[:2 * wrong:2], key=frac))
            self.assertEqual(multiplied(told[0], under), multiplied(told[1], top))

    def test_one_height_for_all(self):
        for many in range(1, 13):
            for height in (ONE, (-5, 3), (0, 1)):
                for width in range(1, many + 1):
                    self.assertEqual(quotient_through(THIRTEEN[:many], [height] * many, width),
                                     (curve_of([height]), curve(1), []))

    def test_nought_for_all_but_one(self):
        for many in (2, 3, 8, 12):
            for at in (0, many // 2, many - 1):
                heights = [(0, 1)] * many
                heights[at] = (7, 2)
                for width in range(1, many):
                    self.assertEqual(self.check_quotient(THIRTEEN[:many], heights, width),
                                     ((), curve(1), [THIRTEEN[at]]))
                told = self.check_quotient(THIRTEEN[:many], heights, many)
                self.assertEqual((len(told[0]), told[1], told[2]), (many, curve(1), []))

    def test_the_least_and_the_greatest_width(self):
        made = Made(73)
        for many in (1, 2, 6, 12):
            spots, heights = made.unlike(many), [made.other_than_nought() for k in range(many)]
            told = self.check_quotient(spots, heights, many)
            self.assertEqual(told, (curve_through(tuple(zip(spots, heights))), curve(1), []))
            top, under, left = self.check_quotient(spots, heights, 1)
            self.assertEqual(left, [])
            turned = curve_through(tuple((x, over(ONE, y)) for x, y in zip(spots, heights)))
            self.assertEqual(scaled(turned, top[0]), under)

    def test_another_order(self):
        made = Made(74)
        for heights in ([ONE, TWO, TWO, (0, 1)], [ONE, (1, 2), (1, 3), THREE], [made.number() for k in range(4)]):
            spots = made.unlike(4)
            for width in (1, 2, 3, 4):
                told = quotient_through(spots, heights, width)
                for order in itertools.permutations(range(4)):
                    self.assertEqual(quotient_through([spots[k] for k in order], [heights[k] for k in order], width),
                                     told)

    def test_sixty_figures(self):
        made = Made(75)
        top, under = made.curve(4, 60), made.curve(3, 60)
        spots = made.unlike(12, 60)
        heights = [num(powers_sum(top, frac(x)) / powers_sum(under, frac(x))) for x in spots]
        turned = over(ONE, under[-1])
        for width in (4, 7, 10):
            self.assertEqual(quotient_through(spots, heights, width), (scaled(top, turned), scaled(under, turned), []))
        heights = [made.number(60) for k in range(4)]
        self.check_quotient(spots[:4], heights, 2)

    def test_no_points_ahead_of_too_few(self):
        two = [ONE, TWO]
        for spots, heights in (([], []), (THIRTEEN, THIRTEEN), ([ONE, ONE], two), ([ONE, TWO, ONE], [ONE, TWO, ONE]),
                               (two, [ONE]), (two, []), ([], [ONE]), (two, [ONE] * 3), (THIRTEEN[:12], THIRTEEN),
                               (THIRTEEN, THIRTEEN[:12])):
            for width in (0, 1, 2, 14, 100):
                self.check_refused(NoPoints, quotient_through, spots, heights, width)

    def test_too_few(self):
        for many in (1, 2, 7, 12):
            for width in (-1, 0, many + 1, many + 2, 10 ** 59):
                self.check_refused(TooFew, quotient_through, THIRTEEN[:many], THIRTEEN[:many], width)


if __name__ == "__main__":
    unittest.main()
