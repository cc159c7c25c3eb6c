"""The quotient of two curves through places and heights."""

from onecurve.curves import NOUGHT, height_at, scaled
from onecurve.division import divided
from onecurve.errors import TooFew
from onecurve.numbers import over, times
from onecurve.pairs import check_heights, pair_through, rising
from onecurve.steps import by_steps


# Nought just at these places, its last number 1.
def nought_at(places):
    return by_steps(places + [NOUGHT], [NOUGHT] * len(places) + [(1, 1)])


# A pair of lowest rank has no common part but what is nought, once, at a place; and
# where the second curve is nought at a place, so is the first.
def lowest_terms(pair, places):
    common = nought_at([x for x in places if height_at(pair[1], x) == NOUGHT])
    under = divided(pair[1], common)[0]
    turned = over((1, 1), under[-1])
    return (scaled(divided(pair[0], common)[0], turned), scaled(under, turned))


def reaches(quotient, x, y):
    below = height_at(quotient[1], x)
    return below != NOUGHT and height_at(quotient[0], x) == times(y, below)


def quotient_through(places, heights, width):
    check_heights(places, heights)
    if width < 1 or width > len(places):
        raise TooFew("there are not as many places as the width asks for")
    quotient = lowest_terms(pair_through(places, heights, width), places)
    left = [x for x, y in zip(places, heights) if not reaches(quotient, x, y)]
    return (quotient[0], quotient[1], rising(left))
