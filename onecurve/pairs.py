"""Two curves, the first of which has at each place the height times the second.

Both are kept in one list of whole numbers, the first curve's ahead of the second's,
each with room for one number more than there are places: only what stands between
them matters, so no bottom is needed.
"""

from onecurve.curves import bottom_of, curve_over, whole_height
from onecurve.errors import NoPoints
from onecurve.numbers import common_measure
from onecurve.points import check_places


def check_heights(places, heights):
    check_places(places, 1)
    if len(heights) != len(places):
        raise NoPoints("there are not as many heights as places")


def rising(places):
    bottom = bottom_of(places)
    return sorted(places, key=lambda place: place[0] * (bottom // place[1]))


# Both curves have room for as many numbers, so their heights are of one scale.
def lack_at(pair, x, y):
    room = len(pair) // 2
    return y[1] * whole_height(pair[:room], x)[0] - y[0] * whole_height(pair[room:], x)[0]


# The last number of either curve is still 0, so what is shifted out of the one into
# the other is nothing.
def with_nought_at(pair, x):
    return [x[1] * pair[k - 1] - x[0] * pair[k] for k in range(len(pair))]


def without_common(tops):
    measure = 0
    for top in tops:
        measure = common_measure(measure, top)
    return [top // measure for top in tops]


# Of two pairs (rank, tops), the first of lower rank, that meet all places so far, two
# that meet x and y too. What the second lacks is made up by the first, which doesn't
# raise its rank; what is left to lack it is given a nought there.
def both_with(both, x, y):
    low = both[0]
    high = both[1]
    lack = lack_at(low[1], x, y)
    other = lack_at(high[1], x, y)
    if lack == 0 and other != 0:
        high = (high[0] + 2, with_nought_at(high[1], x))
    if lack != 0 and other != 0:
        high = (high[0], without_common([lack * b - other * a for a, b in zip(low[1], high[1])]))
    if lack != 0:
        low = (low[0] + 2, with_nought_at(low[1], x))
    return (low, high) if low[0] < high[0] else (high, low)


# The rank of a pair is above 1 just where the first curve has more numbers than the
# width or the second more than are left for it; each place raises one rank by 2, so
# at the end one of them is not. As the lowest one it has no common part but such as
# is nought at a place, once: without another part it would have a lower rank still.
def pair_through(places, heights, width):
    room = len(places) + 1
    first = (2 * (1 - width), [1] + [0] * (2 * room - 1))
    second = (2 * (1 - (room - width)) + 1, [0] * room + [1] + [0] * (room - 1))
    both = (first, second) if first[0] < second[0] else (second, first)
    for x, y in zip(places, heights):
        both = both_with(both, x, y)
    tops = both[0][1]
    return (curve_over(tops[:room], 1), curve_over(tops[room:], 1))
