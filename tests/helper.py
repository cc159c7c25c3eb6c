"""What the tests share: a second way of reckoning, and told examples."""

import copy
import random
from fractions import Fraction

SIXTY = 10 ** 60 - 1


def frac(number):
    return Fraction(number[0], number[1])


def num(value, bottom=1):
    value = Fraction(value, bottom)
    return (value.numerator, value.denominator)


def curve(*values):
    """A curve written by powers, of whole numbers or Fractions; the last must not be 0."""
    told = tuple(num(value) for value in values)
    assert not told or told[-1] != (0, 1)
    return told


def powers_sum(told, x):
    """What a curve comes to at the Fraction x, straight by the words of point 5."""
    return sum((frac(number) * x ** k for k, number in enumerate(told)), Fraction(0))


def places(many):
    """So many unlike Fractions, below 0 and above, whole and not."""
    return [Fraction(2 * k - many, 3) for k in range(many)]


def slope_sum(told, x):
    """What the slope of a curve comes to at the Fraction x."""
    return sum((frac(told[k]) * k * x ** (k - 1) for k in range(1, len(told))), Fraction(0))


def told_numbers(points):
    """(x, k, number) for each told number, in order, as Fractions but for k."""
    return [(frac(point[0]), k, frac(number)) for point in points for k, number in enumerate(point[1:])]


def solved(rows):
    """The one answer of as many equations as unknowns, each row with what it comes to at its end."""
    rows = [list(row) for row in rows]
    for k in range(len(rows)):
        lead = next(j for j in range(k, len(rows)) if rows[j][k] != 0)
        rows[k], rows[lead] = rows[lead], rows[k]
        rows[k] = [value / rows[k][k] for value in rows[k]]
        for j in range(len(rows)):
            if j != k and rows[j][k] != 0:
                often = rows[j][k]
                rows[j] = [value - often * other for value, other in zip(rows[j], rows[k])]
    return [row[-1] for row in rows]


def trimmed(values):
    """The curve of these Fractions by powers."""
    values = list(values)
    while values and values[-1] == 0:
        values.pop()
    return tuple(num(value) for value in values)


def other_curve_through(points):
    """The curve of points by its powers as unknowns: one equation for each told number."""
    told = told_numbers(points)
    rows = []
    for x, k, number in told:
        powers = [x ** j if k == 0 else (j * x ** (j - 1) if j else Fraction(0)) for j in range(len(told))]
        rows.append(powers + [number])
    return trimmed(solved(rows))


def spoil(thing):
    """Changes every list within the thing."""
    if isinstance(thing, (list, tuple)):
        for each in thing:
            spoil(each)
    if isinstance(thing, list):
        thing.reverse()
        thing.append((77, 1))


class Made:
    """Numbers, curves and points, alike at each run."""

    def __init__(self, seed):
        self.source = random.Random(seed)

    def number(self, figures=1):
        most = 10 ** figures - 1
        return num(self.source.randint(-most, most), self.source.randint(1, most))

    def other_than_nought(self, figures=1):
        while True:
            number = self.number(figures)
            if number != (0, 1):
                return number

    def curve(self, width, figures=1):
        if width == 0:
            return ()
        numbers = [self.number(figures) for k in range(width - 1)]
        return tuple(numbers + [self.other_than_nought(figures)])

    def gapped(self, width):
        """A curve of small whole numbers, many of them 0, so that widths drop in leaps."""
        if width == 0:
            return ()
        numbers = [num(self.source.choice((0, 0, 0, 1, -1, 2))) for k in range(width - 1)]
        return tuple(numbers + [num(self.source.choice((1, -1, 3)))])

    def unlike(self, many, figures=1):
        """So many unlike numbers."""
        told = []
        while len(told) < many:
            number = self.number(figures)
            if number not in told:
                told.append(number)
        return told

    def points(self, slopes, figures=1):
        """A point for each sign of the text: one with a slope where it is /, else without."""
        spots = self.unlike(len(slopes), figures)
        return tuple((x, self.number(figures)) + ((self.number(figures),) if sign == "/" else ())
                     for x, sign in zip(spots, slopes))


POINT_SHAPES = (".", "/", "..", "./", "/.", "//", "...", "./.", "/./", "////", "......", "./../.",
                "//////", "............", "./././" + "...", "/.........")


class CurveChecks:
    """Mixed into a TestCase."""

    def check_number(self, thing):
        self.assertIs(type(thing), tuple)
        self.assertEqual(len(thing), 2)
        self.assertIs(type(thing[0]), int)
        self.assertIs(type(thing[1]), int)
        self.assertGreaterEqual(thing[1], 1)
        self.assertEqual(num(frac(thing)), thing)

    def check_curve(self, thing):
        self.assertIs(type(thing), tuple)
        for number in thing:
            self.check_number(number)
        if thing:
            self.assertNotEqual(thing[-1], (0, 1))

    def check_told_again(self, call, *things):
        """Asked again it is alike, nothing handed in is changed, and what is told is the asker's own."""
        kept = copy.deepcopy(things)
        things = copy.deepcopy(things)
        told = call(*things)
        first = copy.deepcopy(told)
        self.assertEqual(things, kept)
        spoil(told)
        self.assertEqual(things, kept)
        self.assertEqual(call(*things), first)
        spoil(things)
        self.assertEqual(call(*kept), first)

    def check_refused(self, kind, call, *things):
        """Refused with just this class, none under it or above it."""
        try:
            told = call(*things)
        except ValueError as error:
            self.assertIs(type(error), kind)
        else:
            self.fail("told %r in the stead of a refusal" % (told,))
