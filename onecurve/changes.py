"""Points put in, taken out, and moved, and what becomes of the curve."""

from onecurve.curves import NOUGHT, scaled
from onecurve.errors import NoPoint, NoPoints
from onecurve.points import knots_of, points_of, told_in
from onecurve.shares import share_of
from onecurve.steps import by_steps, steps_of


def put_in(points, point):
    return points_of(list(points) + [point])


def point_at(points, x):
    for point in points:
        if point[0] == x:
            return point
    raise NoPoint("no point has this place")


def taken_out(points, x):
    out = point_at(points, x)
    if len(points) == 1:
        raise NoPoints("the only point stays")
    return tuple([point for point in points if point != out])


# The new point may be none at all, and is refused only here.
def replaced(points, old, new):
    return points_of([new if point == old else point for point in points])


def with_height(points, x, y):
    old = point_at(points, x)
    return replaced(points, old, (x, y) + old[2:])


def with_slope(points, x, slope):
    old = point_at(points, x)
    if slope is None:
        return replaced(points, old, old[:2])
    return replaced(points, old, old[:2] + (slope,))


def new_steps(points, point):
    return steps_of(put_in(points, point))[len(told_in(points)):]


def gain(points, x, k, number):
    if (x, k) not in [told[:2] for told in told_in(points)]:
        raise NoPoint("no such height or slope is told")
    return scaled(share_of(points, x, k), number)


# Behind the points left its steps alone are more than they have: theirs are 0 here.
def loss(points, x):
    left = taken_out(points, x)
    out = point_at(points, x)
    steps = new_steps(left, out)
    knots = knots_of(left)
    return by_steps(knots + [x] * len(steps), [NOUGHT] * len(knots) + steps)
