import unittest
from fractions import Fraction

from onecurve.between import halves_of, heights_of
from onecurve.curves import height_at, multiplied, scaled, slope_of
from onecurve.division import common_part, divided
from onecurve.errors import NoCurve, NoStretch, TooDeep
from onecurve.parted import changes_in, lone_part, noughts_of, pieces_of
from tests.helper import CurveChecks, Made, curve, frac, num

ONE, TWO, THREE = (1, 1), (2, 1), (3, 1)
HALF = Fraction(1, 2)


def with_noughts(*noughts):
    told = curve(1)
    for x in noughts:
        told = multiplied(told, curve(-Fraction(x), 1))
    return told


def other_pieces(told, low, high, depth=0):
    """Point 23 by its words, each piece's heights reckoned anew; None for TooDeep."""
    part = lone_part(told)
    heights = [frac(number) for number in heights_of(part, num(low), num(high))]
    signs = [value > 0 for value in heights if value != 0]
    changes = sum(a != b for a, b in zip(signs, signs[1:]))
    if changes <= 1:
        return [(num(low), num(high), changes)]
    if depth == 16:
        return None
    middle = (low + high) / 2
    first = other_pieces(told, low, middle, depth + 1)
    second = other_pieces(told, middle, high, depth + 1)
    return None if first is None or second is None else first + second


class LonePart(CurveChecks, unittest.TestCase):
    def check_lone_part(self, told):
        part = lone_part(told)
        self.check_curve(part)
        self.assertEqual(part, divided(told, common_part(told, slope_of(told)))[0])
        if len(part) > 1:
            self.assertEqual(common_part(part, slope_of(part)), curve(1))
        power = curve(1)
        for turn in range(len(told)):
            power = multiplied(power, part)
        self.assertEqual(divided(power, told)[1], ())
        self.assertEqual(divided(told, part)[1], ())
        return part

    def test_ordinary(self):
        self.assertEqual(lone_part(with_noughts(1, 1, 2)), with_noughts(1, 2))
        self.assertEqual(lone_part(scaled(with_noughts(1, 1, 2), (3, 1))), scaled(with_noughts(1, 2), (3, 1)))
        self.assertEqual(lone_part(with_noughts(1, 2)), with_noughts(1, 2))
        self.assertEqual(lone_part(curve(0, 0, 0, 5)), curve(0, 5))

    def test_of_one_number_itself(self):
        for value in (1, -3, HALF):
            self.assertEqual(lone_part(curve(value)), curve(value))

    def test_lines_twice_and_more(self):
        for noughts in ((1, 1), (0, 0, 0), (1, 1, 2, 2, 2), (HALF, HALF, -3), (1, 1, 1, 1, 2, 3, 3, -HALF, -HALF)):
            self.assertEqual(self.check_lone_part(with_noughts(*noughts)), with_noughts(*sorted(set(noughts))))

    def test_without_noughts(self):
        circle = curve(1, 0, 1)
        self.assertEqual(self.check_lone_part(multiplied(circle, circle)), circle)
        self.check_lone_part(multiplied(multiplied(circle, circle), with_noughts(1, 1, 5)))

    def test_many(self):
        made = Made(58)
        for width in range(1, 8):
            told = made.curve(width)
            self.check_lone_part(told)
            self.check_lone_part(multiplied(told, multiplied(told, made.curve(2))))
        self.check_told_again(lone_part, made.curve(5))

    def test_nought_curve(self):
        self.check_refused(NoCurve, lone_part, ())


class ChangesIn(unittest.TestCase):
    def changes(self, *values):
        return changes_in([num(Fraction(value)) for value in values])

    def test_changes(self):
        self.assertEqual(self.changes(1, -1), 1)
        self.assertEqual(self.changes(-1, 1), 1)
        self.assertEqual(self.changes(1, -HALF, 3, -4), 3)
        self.assertEqual(self.changes(1, 2, -3, -4, 5), 2)

    def test_noughts_left_out(self):
        self.assertEqual(self.changes(1, 0, -1), 1)
        self.assertEqual(self.changes(1, 0, 0, 1), 0)
        self.assertEqual(self.changes(0, 0, 1, 0, -1, 0, 0, 1, 0), 2)

    def test_none(self):
        for values in ((), (0,), (0, 0, 0), (5,), (-5,), (0, 5, 0), (1, 2, 3), (-1, 0, -HALF)):
            self.assertEqual(self.changes(*values), 0)

    def test_the_list_stays(self):
        some = [(1, 1), (0, 1), (-1, 2)]
        self.assertEqual(changes_in(some), 1)
        self.assertEqual(some, [(1, 1), (0, 1), (-1, 2)])


class PiecesOf(CurveChecks, unittest.TestCase):
    def check_pieces(self, told, low, high):
        pieces = pieces_of(told, low, high)
        self.assertIs(type(pieces), list)
        self.assertEqual(pieces, other_pieces(told, frac(low), frac(high)))
        self.assertEqual(pieces[0][0], low)
        self.assertEqual(pieces[-1][1], high)
        for piece, later in zip(pieces, pieces[1:]):
            self.assertEqual(piece[1], later[0])
        for piece in pieces:
            self.assertIs(type(piece), tuple)
            self.assertLess(frac(piece[0]), frac(piece[1]))
            self.assertIn(piece[2], (0, 1))
        self.check_told_again(pieces_of, told, low, high)
        return pieces

    def test_ordinary(self):
        self.assertEqual(pieces_of(with_noughts(1, 3), (0, 1), (4, 1)), [((0, 1), TWO, 1), (TWO, (4, 1), 1)])
        self.assertEqual(pieces_of(with_noughts(1), (0, 1), (4, 1)), [((0, 1), (4, 1), 1)])
        self.assertEqual(pieces_of(with_noughts(9), (0, 1), (4, 1)), [((0, 1), (4, 1), 0)])
        self.assertEqual(pieces_of(curve(-5), (0, 1), (4, 1)), [((0, 1), (4, 1), 0)])

    def test_noughts_at_the_ends_are_no_changes(self):
        self.assertEqual(pieces_of(with_noughts(0, 4), (0, 1), (4, 1)), [((0, 1), (4, 1), 0)])
        self.assertEqual(pieces_of(with_noughts(0, 1, 4), (0, 1), (4, 1)), [((0, 1), (4, 1), 1)])

    def test_each_piece_has_so_many_noughts(self):
        for noughts in ((1, 3), (0, 4), (1, 2, 3), (0, 1, 2, 3, 4), (1, 1, 3), (HALF, HALF, HALF, 2, 2),
                        (Fraction(1, 3), Fraction(2, 3), 5), (-1, 5, 7), (2, Fraction(17, 8)), (-2, -1, 0, 1, 2)):
            for factor in (curve(1), curve(-2), curve(1, 0, 1)):
                told = multiplied(with_noughts(*noughts), factor)
                for low, high in (((0, 1), (4, 1)), ((-1, 2), (5, 1)), ((1, 3), (2, 3)), ((-2, 1), (2, 1))):
                    for piece in self.check_pieces(told, low, high):
                        inside = [x for x in set(noughts) if frac(piece[0]) < x < frac(piece[1])]
                        self.assertEqual(len(inside), piece[2])

    def test_many(self):
        made = Made(59)
        for width in range(1, 11):
            for turn in range(4):
                told = made.curve(width, 2)
                if other_pieces(told, Fraction(-3), Fraction(4)) is not None:
                    self.check_pieces(told, (-3, 1), (4, 1))

    def test_sixteen_halvings_and_not_more(self):
        # Only a piece from 0 to 1 holds the one without the other: so many halvings lead there.
        for depth in (1, 2, 5, 14, 15, 16):
            wide = 2 ** depth
            told = with_noughts(Fraction(1, 3), Fraction(5, 3))
            pieces = self.check_pieces(told, (0, 1), (wide, 1))
            self.assertEqual(pieces[0], ((0, 1), ONE, 1))
            self.assertEqual(len(pieces), depth + 1)
        for wide in (2 ** 17, 2 ** 18, 10 ** 9):
            self.check_refused(TooDeep, pieces_of, told, (0, 1), (wide, 1))
            self.check_refused(TooDeep, noughts_of, told, (0, 1), (wide, 1))

    def test_too_deep_without_noughts(self):
        told = curve(Fraction(1, 10 ** 20) + Fraction(1, 9), Fraction(-2, 3), 1)
        self.check_refused(TooDeep, pieces_of, told, (0, 1), ONE)
        self.check_refused(TooDeep, noughts_of, told, (0, 1), ONE)
        self.assertEqual(pieces_of(told, ONE, TWO), [(ONE, TWO, 0)])

    def test_refused(self):
        close = with_noughts(Fraction(1, 10 ** 9), Fraction(2, 10 ** 9))
        for call in (pieces_of, noughts_of):
            for low, high in (((0, 1), ONE), (ONE, ONE), (TWO, ONE)):
                self.check_refused(NoCurve, call, (), low, high)
            for told in (curve(1), curve(0, 1), close):
                for low, high in ((ONE, ONE), (TWO, ONE), ((1, 3), (1, 4))):
                    self.check_refused(NoStretch, call, told, low, high)
            self.check_refused(TooDeep, call, close, (-1, 1), ONE)

    def test_halves_come_by_means(self):
        told = with_noughts(Fraction(1, 3), Fraction(5, 3))
        lower, upper = halves_of(heights_of(told, (0, 1), TWO))
        self.assertEqual([changes_in(lower), changes_in(upper)], [1, 1])


class NoughtsOf(CurveChecks, unittest.TestCase):
    def test_ordinary(self):
        self.assertEqual(noughts_of(with_noughts(1, 3), (0, 1), (4, 1)), 2)
        self.assertEqual(noughts_of(with_noughts(1, 1, 3), (0, 1), (4, 1)), 2)
        self.assertEqual(noughts_of(curve(1, 0, 1), (-4, 1), (4, 1)), 0)
        self.assertEqual(noughts_of(curve(7), (-4, 1), (4, 1)), 0)

    def test_low_and_high_count(self):
        self.assertEqual(noughts_of(with_noughts(0, 4), (0, 1), (4, 1)), 2)
        self.assertEqual(noughts_of(with_noughts(0, 0, 4), (0, 1), (4, 1)), 2)
        self.assertEqual(noughts_of(with_noughts(0), (0, 1), (4, 1)), 1)
        self.assertEqual(noughts_of(with_noughts(4), (0, 1), (4, 1)), 1)
        self.assertEqual(noughts_of(with_noughts(5, -1), (0, 1), (4, 1)), 0)

    def test_ends_within_count_once(self):
        self.assertEqual(noughts_of(with_noughts(1, 2, 3), (0, 1), (4, 1)), 3)
        self.assertEqual(noughts_of(with_noughts(0, 1, 2, 3, 4), (0, 1), (4, 1)), 5)

    def test_known_noughts(self):
        made = Made(60)
        for many in range(1, 9):
            for turn in range(6):
                noughts = [Fraction(made.source.randint(-8, 8), made.source.choice((1, 2, 3))) for k in range(many)]
                told = multiplied(with_noughts(*noughts), curve(made.source.choice((1, 2)), 0, 3))
                told = scaled(told, made.other_than_nought())
                for low, high in ((-8, 8), (-2, 3), (0, 1)):
                    awaited = len([x for x in set(noughts) if low <= x <= high])
                    self.assertEqual(noughts_of(told, num(low), num(high)), awaited)

    def test_a_count_is_a_whole_number(self):
        self.assertIs(type(noughts_of(with_noughts(1, 3), (0, 1), (4, 1))), int)
        self.assertIs(type(changes_in([ONE, (-1, 1)])), int)
        self.check_told_again(noughts_of, with_noughts(1, 2, 3), (0, 1), (4, 1))

    def test_a_great_curve(self):
        told = with_noughts(*[Fraction(k, 2) for k in range(15)])
        self.assertEqual(len(told), 16)
        self.assertEqual(noughts_of(told, (0, 1), (7, 1)), 15)
        self.assertEqual(noughts_of(told, (1, 4), (27, 4)), 13)
        self.assertEqual(height_at(told, (7, 2)), (0, 1))


if __name__ == "__main__":
    unittest.main()
