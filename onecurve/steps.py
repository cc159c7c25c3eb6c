"""The steps from point to point, and the curve that they make."""

from onecurve.curves import bottom_of, curve_over, tops_over, whole_product
from onecurve.numbers import minus, over
from onecurve.points import knots_of


def first_row(points):
    row = []
    for point in points:
        row.extend([point[1]] * (len(point) - 1))
    return row


# Two neighbouring knots are alike only where their point has a slope.
def slopes_in(points):
    slopes = {}
    for point in points:
        if len(point) == 3:
            slopes[point[0]] = point[2]
    return slopes


# Row k, from 1 on, of the row ahead of it.
def next_row(ahead, knots, slopes, k):
    row = []
    for j in range(len(knots) - k):
        if knots[j + k] == knots[j]:
            row.append(slopes[knots[j]])
        else:
            row.append(over(minus(ahead[j + 1], ahead[j]), minus(knots[j + k], knots[j])))
    return row


def table_of(points):
    knots = knots_of(points)
    slopes = slopes_in(points)
    table = []
    for k in range(len(knots)):
        table.append(first_row(points) if k == 0 else next_row(table[k - 1], knots, slopes, k))
    return table


def steps_of(points):
    return [row[0] for row in table_of(points)]


# From the last step on: what is made so far times x less the knot, and the step.
# All stays whole over one bottom and a scale of the knots' bottoms.
def by_steps(knots, steps):
    bottom = bottom_of(steps)
    step_tops = tops_over(steps, bottom)
    tops = []
    scale = 1
    for k in range(len(knots) - 1, -1, -1):
        tops = whole_product(tops, [-knots[k][0], knots[k][1]])
        scale = scale * knots[k][1]
        tops[0] = tops[0] + step_tops[k] * scale
    return curve_over(tops, bottom * scale)


def curve_through(points):
    return by_steps(knots_of(points), steps_of(points))
