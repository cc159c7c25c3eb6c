"""The curve when some heights are wrong, and heights that leave two curves."""

from onecurve.curves import NOUGHT, height_at
from onecurve.errors import TooFew
from onecurve.pairs import check_heights, pair_through, rising
from onecurve.points import check_places
from onecurve.steps import by_steps, curve_through


# Were there such a curve, through would be lock times it. So it has the height at each
# place at which lock is not 0, and so many of these as the width make out what it is.
def judged(places, heights, width, most):
    check_heights(places, heights)
    many = 2 * most + width
    if many > len(places):
        raise TooFew("there are too few places for so many wrong ones")
    pair = pair_through(places[:many], heights[:many], most + width)
    lock = pair[1]
    points = list(zip(places, heights))
    sure = [point for point in points[:many] if height_at(lock, point[0]) != NOUGHT]
    curve = curve_through(tuple(sure[:width]))
    wrong = rising([x for x, y in points if height_at(curve, x) != y])
    if len(wrong) > most:
        return ("none", lock, pair[0])
    return ("one", curve, wrong)


# Both curves meet at one place less than the width, and share the other places as
# evenly as can be.
def doubtful(places, width):
    check_places(places, 2)
    if width < 1 or width >= len(places):
        raise TooFew("for this width no heights are doubtful")
    other = by_steps(places[:width], [NOUGHT] * (width - 1) + [(1, 1)])
    many = (len(places) - width) // 2 + 1
    start = len(places) - many
    heights = [NOUGHT] * start + [height_at(other, x) for x in places[start:]]
    return (heights, (), other)
