"""Points and curves sent: places to a times x and b, heights to c times y and d."""

from onecurve.curves import NOUGHT, added, curve_of, scaled, with_line
from onecurve.errors import NoNumber
from onecurve.numbers import minus, over, plus, times


def check_stretches(a, c):
    if a == NOUGHT or c == NOUGHT:
        raise NoNumber("nothing is stretched by 0")


def sent_points(points, a, b, c, d):
    check_stretches(a, c)
    told = []
    for point in points:
        place = plus(times(a, point[0]), b)
        height = plus(times(c, point[1]), d)
        slopes = [over(times(c, slope), a) for slope in point[2:]]
        told.append((place, height) + tuple(slopes))
    return tuple(told)


# The sent curve looks back from a place to where it was sent from.
def sent_curve(curve, a, b, c, d):
    check_stretches(a, c)
    back = with_line(curve, over((1, 1), a), over(minus(NOUGHT, b), a))
    return added(scaled(back, c), curve_of([d]))
