"""Heights at even steps: their differences, how they go on, and their sums."""

from onecurve.curves import NOUGHT, bottom_of, curve_over, height_at, scaled, tops_over, with_line
from onecurve.errors import NoNumber
from onecurve.numbers import number_of, over
from onecurve.steps import by_steps


def whole_rows(tops):
    rows = [list(tops)]
    while len(rows[-1]) > 1:
        row = rows[-1]
        rows.append([row[k] - row[k - 1] for k in range(1, len(row))])
    return rows


def differences(numbers):
    bottom = bottom_of(numbers)
    rows = []
    for row in whole_rows(tops_over(numbers, bottom)):
        rows.append([number_of(top, bottom) for top in row])
    return rows


# Each row grows by what stands at the end of the row below it, the last one not at all.
def carried(numbers, many):
    bottom = bottom_of(numbers)
    ends = [row[-1] for row in whole_rows(tops_over(numbers, bottom))]
    told = list(numbers)
    for turn in range(many):
        for k in range(len(ends) - 2, -1, -1):
            ends[k] = ends[k] + ends[k + 1]
        told.append(number_of(ends[0], bottom))
    return told


# The heights along the way are carried on by their first differences d: the k-th of
# these counts in the sum of m heights as often as k + 1 of m things are taken. So the
# steps of the sum at 0, 1, 2 .. are 0 and d over 1, over 1 * 2, over 1 * 2 * 3 ..
def summed(curve, place, step):
    if step == NOUGHT:
        raise NoNumber("a step of 0 leads nowhere")
    if len(curve) == 0:
        return ()
    along = with_line(curve, step, place)
    bottom = bottom_of(along)
    whole = curve_over(tops_over(along, bottom), 1)
    knots = [(k, 1) for k in range(len(whole) + 1)]
    steps = [NOUGHT]
    ways = 1
    for row in differences([height_at(whole, knot) for knot in knots[:-1]]):
        ways = ways * len(steps)
        steps.append(over(row[0], (ways, 1)))
    return scaled(by_steps(knots, steps), (1, bottom))
