"""What the tests share: a second way of reckoning, and told examples."""

import random
from fractions import Fraction

SIXTY = 10 ** 60 - 1


def frac(number):
    return Fraction(number[0], number[1])


def num(value, bottom=1):
    value = Fraction(value, bottom)
    return (value.numerator, value.denominator)


def curve(*values):
    """A curve written by powers, of whole numbers or Fractions; the last must not be 0."""
    told = tuple(num(value) for value in values)
    assert not told or told[-1] != (0, 1)
    return told


def powers_sum(told, x):
    """What a curve comes to at the Fraction x, straight by the words of point 5."""
    return sum((frac(number) * x ** k for k, number in enumerate(told)), Fraction(0))


def places(many):
    """So many unlike Fractions, below 0 and above, whole and not."""
    return [Fraction(2 * k - many, 3) for k in range(many)]


class Made:
    """Numbers and curves, alike at each run."""

    def __init__(self, seed):
        self.source = random.Random(seed)

    def number(self, figures=1):
        most = 10 ** figures - 1
        return num(self.source.randint(-most, most), self.source.randint(1, most))

    def other_than_nought(self, figures=1):
        while True:
            number = self.number(figures)
            if number != (0, 1):
                return number

    def curve(self, width, figures=1):
        if width == 0:
            return ()
        numbers = [self.number(figures) for k in range(width - 1)]
        return tuple(numbers + [self.other_than_nought(figures)])

    def gapped(self, width):
        """A curve of small whole numbers, many of them 0, so that widths drop in leaps."""
        if width == 0:
            return ()
        numbers = [num(self.source.choice((0, 0, 0, 1, -1, 2))) for k in range(width - 1)]
        return tuple(numbers + [num(self.source.choice((1, -1, 3)))])


class CurveChecks:
    """Mixed into a TestCase."""

    def check_number(self, thing):
        self.assertIs(type(thing), tuple)
        self.assertEqual(len(thing), 2)
        self.assertIs(type(thing[0]), int)
        self.assertIs(type(thing[1]), int)
        self.assertGreaterEqual(thing[1], 1)
        self.assertEqual(num(frac(thing)), thing)

    def check_curve(self, thing):
        self.assertIs(type(thing), tuple)
        for number in thing:
            self.check_number(number)
        if thing:
            self.assertNotEqual(thing[-1], (0, 1))

    def check_refused(self, kind, call, *things):
        """Refused with just this class, none under it or above it."""
        try:
            told = call(*things)
        except ValueError as error:
            self.assertIs(type(error), kind)
        else:
            self.fail("told %r in the stead of a refusal" % (told,))
