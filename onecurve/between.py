"""A curve between two places: the heights that hold it, and its halves."""

from onecurve.curves import NOUGHT, bottom_of, tops_over, with_line
from onecurve.division import raised
from onecurve.errors import NoStretch
from onecurve.numbers import is_less, minus, number_of, over


# The curve's numbers along t, each over how many ways there are to take so many things.
def parts_along(along):
    parts = []
    ways = 1
    for k in range(len(along)):
        parts.append(over(along[k], (ways, 1)))
        ways = ways * (len(along) - 1 - k) // (k + 1)
    return parts


# The heights are the list whose rows of differences begin with the parts; adding
# neighbours again and again leads back from these to it.
def heights_of(curve, low, high):
    if not is_less(low, high):
        raise NoStretch("the stretch does not rise")
    if len(curve) == 0:
        return [NOUGHT]
    parts = parts_along(with_line(curve, minus(high, low), low))
    bottom = bottom_of(parts)
    row = tops_over(parts, bottom)
    heights = []
    while len(row) > 0:
        heights.append(number_of(row[0], bottom))
        row = [row[k] + row[k + 1] for k in range(len(row) - 1)]
    return heights


def bounds_of(curve, low, high):
    heights = heights_of(curve, low, high)
    tops = tops_over(heights, bottom_of(heights))
    return (heights[tops.index(min(tops))], heights[tops.index(max(tops))])


# Sums stand for means, so both halves come out greater by the factor 2 for each height
# but the first: the earlier ones are doubled as the later ones come.
def whole_halves(tops):
    row = list(tops)
    lower = []
    upper = []
    while len(row) > 0:
        lower = [2 * top for top in lower] + [row[0]]
        upper = [row[-1]] + [2 * top for top in upper]
        row = [row[k] + row[k + 1] for k in range(len(row) - 1)]
    return (lower, upper)


def halves_of(some):
    bottom = bottom_of(some)
    halves = whole_halves(tops_over(some, bottom))
    scale = bottom * raised(2, len(some) - 1)
    return ([number_of(top, scale) for top in halves[0]], [number_of(top, scale) for top in halves[1]])
