"""Stretches in each of which a curve is nought once or never."""

from onecurve.between import heights_of, whole_halves
from onecurve.curves import NOUGHT, bottom_of, height_at, slope_of, tops_over
from onecurve.division import common_part, divided
from onecurve.errors import NoCurve, TooDeep
from onecurve.numbers import over, plus

DEEPEST = 16


def lone_part(curve):
    if len(curve) == 0:
        raise NoCurve("the nought curve is nought everywhere")
    return divided(curve, common_part(curve, slope_of(curve)))[0]


def sign_changes(tops):
    kept = [top for top in tops if top != 0]
    return len([k for k in range(1, len(kept)) if (kept[k] > 0) != (kept[k - 1] > 0)])


def changes_in(some):
    return sign_changes([number[0] for number in some])


# Only the signs of heights matter here, so they stay whole, without their bottom.
def pieces_of(curve, low, high):
    heights = heights_of(lone_part(curve), low, high)
    waiting = [(low, high, tops_over(heights, bottom_of(heights)), 0)]
    pieces = []
    while len(waiting) > 0:
        piece = waiting.pop()
        changes = sign_changes(piece[2])
        if changes > 1:
            waiting.extend(halved(piece))
        else:
            pieces.append((piece[0], piece[1], changes))
    return pieces


# The lower half stands last, so that it is the next one looked at and pieces rise.
def halved(piece):
    if piece[3] == DEEPEST:
        raise TooDeep("a piece of sixteen halvings has more than one change")
    middle = over(plus(piece[0], piece[1]), (2, 1))
    halves = whole_halves(piece[2])
    depth = piece[3] + 1
    return [(middle, piece[1], halves[1], depth), (piece[0], middle, halves[0], depth)]


def noughts_of(curve, low, high):
    pieces = pieces_of(curve, low, high)
    ends = [low] + [piece[1] for piece in pieces]
    at_ends = [end for end in ends if height_at(curve, end) == NOUGHT]
    return len(at_ends) + sum([piece[2] for piece in pieces])
