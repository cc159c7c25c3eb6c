import itertools
import unittest

from onecurve.division import divided
from onecurve.errors import NoPoints, TooFew
from onecurve.wrong import doubtful, judged
from tests.helper import CurveChecks, Made, curve, frac, num, other_curve_through, powers_sum

ONE, TWO, THREE = (1, 1), (2, 1), (3, 1)
THIRTEEN = [(k, 1) for k in range(13)]


def heights_at(told, spots):
    return [num(powers_sum(told, frac(x))) for x in spots]


def wrong_for(told, spots, heights):
    return sorted([x for x, y in zip(spots, heights) if powers_sum(told, frac(x)) != frac(y)], key=frac)


def other_judged(spots, heights, width, most):
    """The curve by trying every so many places, or None."""
    for some in itertools.combinations(list(zip(spots, heights)), width):
        told = other_curve_through(some)
        if len(wrong_for(told, spots, heights)) <= most:
            return told
    return None


class Judged(CurveChecks, unittest.TestCase):
    def check_judged(self, spots, heights, width, most):
        told = judged(spots, heights, width, most)
        self.assertIs(type(told), tuple)
        self.assertEqual(len(told), 3)
        if told[0] == "one":
            self.check_one(told, spots, heights, width, most)
        else:
            self.assertEqual(told[0], "none")
            self.check_none(told, spots, heights, width, most)
        self.check_told_again(judged, list(spots), list(heights), width, most)
        return told

    def check_one(self, told, spots, heights, width, most):
        self.check_curve(told[1])
        self.assertLessEqual(len(told[1]), width)
        self.assertIs(type(told[2]), list)
        self.assertEqual(told[2], wrong_for(told[1], spots, heights))
        self.assertLessEqual(len(told[2]), most)

    def check_none(self, told, spots, heights, width, most):
        lock, through = told[1:]
        self.check_curve(lock)
        self.check_curve(through)
        self.assertNotEqual(lock, ())
        self.assertLessEqual(len(lock), most + 1)
        self.assertLessEqual(len(through), most + width)
        for x, y in list(zip(spots, heights))[:2 * most + width]:
            self.assertEqual(powers_sum(through, frac(x)), frac(y) * powers_sum(lock, frac(x)))

    def check_found(self, told, spots, wrong, width, most):
        """The curve and the wrong places, rising, where so many heights are made wrong."""
        heights = heights_at(told, spots)
        for k in wrong:
            heights[k] = num(frac(heights[k]) + 1 + k)
        self.assertEqual(self.check_judged(spots, heights, width, most),
                         ("one", told, sorted([spots[k] for k in wrong], key=frac)))

    def test_ordinary(self):
        spots = [ONE, TWO, THREE, (4, 1), (5, 1)]
        self.assertEqual(judged(spots, [ONE, TWO, (9, 1), (4, 1), (5, 1)], 2, 1), ("one", curve(0, 1), [THREE]))
        self.assertEqual(judged(spots, [ONE, TWO, THREE, (4, 1), (5, 1)], 2, 1), ("one", curve(0, 1), []))
        self.assertEqual(judged(spots, [TWO] * 5, 1, 2), ("one", curve(2), []))
        self.assertEqual(judged(spots, [(0, 1), ONE, (0, 1), (0, 1), TWO], 1, 2), ("one", (), [TWO, (5, 1)]))
        self.assertEqual(self.check_judged(spots, [ONE, TWO, ONE, TWO, THREE], 1, 2)[0], "none")

    def test_wrong_places_rise(self):
        spots = [(5, 1), (-1, 2), THREE, (1, 3), (0, 1), (-4, 1), (7, 3)]
        heights = heights_at(curve(1, 2), spots)
        heights[0] = heights[1] = (100, 1)
        self.assertEqual(judged(spots, heights, 2, 2), ("one", curve(1, 2), [(-1, 2), (5, 1)]))
        heights[1], heights[5] = heights_at(curve(1, 2), spots)[1], (0, 1)
        self.assertEqual(judged(spots, heights, 2, 2), ("one", curve(1, 2), [(-4, 1), (5, 1)]))

    def test_every_size_with_none_to_most_wrong(self):
        made = Made(61)
        for many in (1, 2, 3, 5, 8, 12):
            for width in range(1, many + 1):
                for most in range((many - width) // 2 + 1):
                    spots = made.unlike(many)
                    for wrong in {0, 1, most // 2, most}:
                        if wrong <= most:
                            which = made.source.sample(range(many), wrong)
                            told = made.curve(made.source.randint(0, width))
                            self.check_found(told, spots, which, width, most)

    def test_wrong_ones_behind_the_first_places(self):
        made = Made(62)
        spots = made.unlike(10)
        for wrong in ((9,), (0,), (9, 8), (0, 9), (0, 1)):
            self.check_found(made.curve(3), spots, wrong, 3, 2)
        # The first seven fit one curve, but three behind them do not.
        heights = heights_at(curve(1, 2, 3), spots[:7]) + [(100, 1), (101, 1), (-99, 1)]
        self.assertEqual(self.check_judged(spots, heights, 3, 2)[0], "none")

    def test_against_trying_every_choice(self):
        made = Made(63)
        seen = set()
        for turn in range(120):
            many = made.source.randint(1, 7)
            width = made.source.randint(1, many)
            most = made.source.randint(0, (many - width) // 2)
            spots = made.unlike(many)
            heights = [num(made.source.randint(0, 2)) for k in range(many)]
            told = self.check_judged(spots, heights, width, most)
            awaited = other_judged(spots, heights, width, most)
            self.assertEqual(told[0], "none" if awaited is None else "one")
            if awaited is not None:
                self.assertEqual(told[1], awaited)
            seen.add(told[0])
        self.assertEqual(seen, {"one", "none"})

    def test_one_wrong_height_too_many(self):
        made = Made(64)
        for width, most in ((1, 5), (2, 5), (4, 4), (6, 3), (9, 1)):
            many = 2 * most + width
            spots = made.unlike(many, 2)
            heights = heights_at(made.curve(width), spots)
            for k in range(most + 1):
                heights[k * many // (most + 1)] = made.number(4)
            self.assertEqual(self.check_judged(spots, heights, width, most)[0], "none")

    def test_most_nought(self):
        made = Made(65)
        for many in (1, 2, 5, 12):
            spots = made.unlike(many)
            heights = [made.number() for k in range(many)]
            told = self.check_judged(spots, heights, many, 0)
            self.assertEqual(told, ("one", other_curve_through(list(zip(spots, heights))), []))
        heights = heights_at(curve(1, 2), spots)
        self.assertEqual(self.check_judged(spots, heights, 2, 0), ("one", curve(1, 2), []))
        heights[-1] = (1000, 1)
        self.assertEqual(self.check_judged(spots, heights, 2, 0)[0], "none")

    def test_through_over_lock_is_no_such_curve(self):  # 25
        made = Made(68)
        for turn in range(40):
            width, most = made.source.choice(((1, 1), (2, 2), (3, 1), (1, 3)))
            spots = made.unlike(2 * most + width + made.source.randint(0, 2))
            heights = [num(made.source.randint(0, 3)) for x in spots]
            told = judged(spots, heights, width, most)
            if told[0] == "none":
                often, rest = divided(told[2], told[1])
                lost = wrong_for(often, spots, heights)
                self.assertTrue(rest != () or len(often) > width or len(lost) > most)

    def test_sixty_figures(self):
        made = Made(66)
        spots = made.unlike(12, 60)
        told = made.curve(4, 60)
        heights = heights_at(told, spots)
        for k in (1, 4, 5, 11):
            heights[k] = made.number(60)
        self.assertEqual(judged(spots, heights, 4, 4),
                         ("one", told, sorted([spots[k] for k in (1, 4, 5, 11)], key=frac)))
        heights = [made.number(20) for k in range(9)]
        told = self.check_judged(made.unlike(9, 20), heights, 3, 3)
        self.assertEqual(told[0], "none")
        # Figures that all of them share would soon be more than are promised to be told.
        self.assertLess(max(len(str(abs(number[0]))) for number in told[1] + told[2]), 2000)

    def test_no_points(self):
        two = [ONE, TWO]
        for spots, heights in (([], []), (THIRTEEN, THIRTEEN), ([ONE, ONE], two), ([ONE, TWO, ONE], [ONE, TWO, ONE]),
                               (two, [ONE]), (two, []), ([], [ONE]), (two, [ONE] * 3), (THIRTEEN[:12], THIRTEEN),
                               (THIRTEEN, THIRTEEN[:12]), (THIRTEEN[:11] + [(4, 1)], THIRTEEN[:12])):
            for width, most in ((1, 0), (2, 0), (5, 5), (100, 0)):
                self.check_refused(NoPoints, judged, spots, heights, width, most)

    def test_too_few(self):
        for many in (1, 2, 5, 12):
            for width in range(1, 15):
                for most in range(0, 9):
                    if 2 * most + width > many:
                        self.check_refused(TooFew, judged, THIRTEEN[:many], THIRTEEN[:many], width, most)
        self.check_refused(TooFew, judged, [ONE], [ONE], 10 ** 59, 10 ** 59)


class Doubtful(CurveChecks, unittest.TestCase):
    def check_doubtful(self, spots, width):
        told = doubtful(spots, width)
        self.assertIs(type(told), tuple)
        heights, one, other = told
        self.assertIs(type(heights), list)
        self.assertEqual(len(heights), len(spots))
        for height in heights:
            self.check_number(height)
        self.assertNotEqual(one, other)
        for each in (one, other):
            self.check_curve(each)
            self.assertLessEqual(len(each), width)
            self.assertLessEqual(len(wrong_for(each, spots, heights)), (len(spots) - width) // 2 + 1)
        self.check_told_again(doubtful, list(spots), width)

    def test_every_size(self):
        made = Made(67)
        for many in range(2, 13):
            for width in range(1, many):
                self.check_doubtful(made.unlike(many), width)
        self.check_doubtful(made.unlike(12, 60), 6)
        self.check_doubtful(made.unlike(12, 60), 11)

    def test_places_with_nought_among_them(self):
        for width in range(1, 6):
            self.check_doubtful([(0, 1), ONE, (-1, 1), TWO, (1, 2), (-5, 3)], width)
            self.check_doubtful([(-5, 3), ONE, (-1, 1), TWO, (1, 2), (0, 1)], width)

    def test_no_points(self):
        for spots in ([], [ONE], [ONE, ONE], [ONE, TWO, THREE, TWO], THIRTEEN, THIRTEEN + [(20, 1)],
                      THIRTEEN[:11] + [(5, 1)]):
            for width in (0, 1, 2, 12, 100):
                self.check_refused(NoPoints, doubtful, spots, width)

    def test_too_few(self):
        for many in range(2, 13):
            for width in (0, -1, many, many + 1, 100):
                self.check_refused(TooFew, doubtful, THIRTEEN[:many], width)


if __name__ == "__main__":
    unittest.main()
