import unittest
from fractions import Fraction

from onecurve.errors import NoNumber
from onecurve.numbers import is_less, is_number, minus, number_of, over, plus, times
from tests.helper import SIXTY, CurveChecks, Made, frac, num


def some_numbers():
    made = Made(4)
    told = [num(0), num(1), num(-1), num(2, 3), num(-2, 3), num(3, 2), num(7)]
    told += [num(SIXTY), num(-SIXTY), num(1, SIXTY), num(-SIXTY, SIXTY - 1)]
    return told + [made.number(figures) for figures in (1, 2, 5, 60) for k in range(4)]


class NumberOf(CurveChecks, unittest.TestCase):
    def test_lowest_terms_whatever_the_signs(self):
        self.assertEqual(number_of(6, 4), (3, 2))
        self.assertEqual(number_of(-6, 4), (-3, 2))
        self.assertEqual(number_of(6, -4), (-3, 2))
        self.assertEqual(number_of(-6, -4), (3, 2))
        self.assertEqual(number_of(5, 1), (5, 1))
        self.assertEqual(number_of(5, -1), (-5, 1))
        self.assertEqual(number_of(12, 4), (3, 1))
        self.assertEqual(number_of(4, 12), (1, 3))

    def test_every_small_pair(self):
        for top in range(-30, 31):
            for bottom in list(range(-30, 0)) + list(range(1, 31)):
                told = number_of(top, bottom)
                self.check_number(told)
                self.assertEqual(told, num(top, bottom))

    def test_top_nought(self):
        for bottom in (1, -1, 2, -7, SIXTY, -SIXTY):
            self.assertEqual(number_of(0, bottom), (0, 1))

    def test_sixty_figures(self):
        shared = 10 ** 29 + 7
        for top in (SIXTY, -SIXTY, 10 ** 59, -10 ** 59, 6 * shared ** 2, 1, -1):
            for bottom in (SIXTY, -SIXTY, 10 ** 59, -(10 ** 59), 4 * shared, 1, -1):
                told = number_of(top, bottom)
                self.check_number(told)
                self.assertEqual(told, num(top, bottom))

    def test_bottom_nought_is_refused(self):
        for top in (0, 1, -1, SIXTY, -SIXTY):
            self.check_refused(NoNumber, number_of, top, 0)


class IsNumber(unittest.TestCase):
    def test_numbers(self):
        for thing in [(0, 1), (1, 1), (-1, 1), (2, 3), (-2, 3), (SIXTY, 2), (-1, SIXTY)]:
            self.assertIs(is_number(thing), True)
        for thing in some_numbers():
            self.assertIs(is_number(thing), True)

    def test_told_number_of_many_figures(self):
        self.assertIs(is_number((7 ** 4700, 10 ** 3990)), True)
        self.assertIs(is_number((6 ** 4700, 10 ** 3990)), False)

    def test_truths(self):
        for thing in [True, False, (True, 1), (False, 1), (1, True), (0, True), (2, True),
                      (True, True), (False, True), (True, False), (1, False)]:
            self.assertIs(is_number(thing), False, thing)

    def test_not_in_lowest_terms(self):
        for thing in [(2, 2), (0, 2), (6, 4), (-6, 4), (-3, 3), (SIXTY, SIXTY), (0, SIXTY)]:
            self.assertIs(is_number(thing), False, thing)

    def test_bottom_nought_or_below(self):
        for thing in [(1, 0), (0, 0), (-1, 0), (1, -1), (0, -1), (-1, -2), (2, -3)]:
            self.assertIs(is_number(thing), False, thing)

    def test_other_lengths(self):
        for thing in [(), (1,), (1, 2, 3), (0, 1, 1), (1, 1, 1, 1), ((1, 2),)]:
            self.assertIs(is_number(thing), False, thing)

    def test_other_kinds(self):
        things = [None, 0, 1, -5, "", "1", "12", "1/2", [], [1, 2], [0, 1], {}, {0: 1, 1: 2},
                  {0, 1}, 1.0, (1.0, 2), (1, 2.0), ("1", 2), (1, "2"), ("1", "2"), (None, 1),
                  (1, None), b"12", range(1, 3), object(), (object(), 1), Fraction(1, 2),
                  (Fraction(1), 1), (1j, 1), int, (int, int), len]
        for thing in things:
            self.assertIs(is_number(thing), False, thing)

    def test_nested(self):
        for thing in [((1, 2), 3), (1, (2, 3)), ((1, 1), (1, 1)), ([1], 2), (1, [2]), ({}, 1),
                      [(1, 2)], [(1, 2), (1, 3)], ((), ())]:
            self.assertIs(is_number(thing), False, thing)
        deep = (0, 1)
        for turn in range(5000):
            deep = (deep, 1)
        self.assertIs(is_number(deep), False)


class Reckoned(CurveChecks, unittest.TestCase):
    def check_reckoned(self, call, otherwise):
        for a in some_numbers():
            for b in some_numbers():
                told = call(a, b)
                self.check_number(told)
                self.assertEqual(frac(told), otherwise(frac(a), frac(b)))
                self.assertEqual(call(a, b), told)

    def test_plus(self):
        self.assertEqual(plus((1, 6), (1, 3)), (1, 2))
        self.assertEqual(plus((1, 2), (-1, 2)), (0, 1))
        self.check_reckoned(plus, lambda a, b: a + b)

    def test_minus(self):
        self.assertEqual(minus((1, 6), (1, 2)), (-1, 3))
        self.assertEqual(minus((5, 7), (5, 7)), (0, 1))
        self.check_reckoned(minus, lambda a, b: a - b)

    def test_times(self):
        self.assertEqual(times((2, 3), (-3, 4)), (-1, 2))
        self.assertEqual(times((0, 1), (3, 4)), (0, 1))
        self.check_reckoned(times, lambda a, b: a * b)

    def test_over(self):
        self.assertEqual(over((2, 3), (-4, 9)), (-3, 2))
        self.assertEqual(over((0, 1), (-4, 9)), (0, 1))
        for a in some_numbers():
            for b in some_numbers():
                if b != (0, 1):
                    told = over(a, b)
                    self.check_number(told)
                    self.assertEqual(frac(told), frac(a) / frac(b))
                    self.assertEqual(times(told, b), a)

    def test_over_nought_is_refused(self):
        for a in some_numbers():
            self.check_refused(NoNumber, over, a, (0, 1))

    def test_is_less(self):
        self.assertIs(is_less((1, 3), (1, 2)), True)
        self.assertIs(is_less((1, 2), (1, 3)), False)
        self.assertIs(is_less((-1, 2), (-1, 3)), True)
        self.assertIs(is_less((-1, 3), (-1, 2)), False)
        self.assertIs(is_less((-1, 2), (0, 1)), True)
        for a in some_numbers():
            self.assertIs(is_less(a, a), False)
            for b in some_numbers():
                self.assertIs(is_less(a, b), frac(a) < frac(b))
                self.assertIs(is_less(b, a), frac(b) < frac(a))


if __name__ == "__main__":
    unittest.main()
