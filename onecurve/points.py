"""Told points: tuples (x, y) or (x, y, slope) of numbers, of unlike places."""

from onecurve.curves import height_at, slope_of
from onecurve.errors import NoPoints, TooMany
from onecurve.numbers import is_number

MOST_TOLD = 12


def is_point(thing):
    if not isinstance(thing, tuple) or len(thing) not in (2, 3):
        return False
    return all([is_number(each) for each in thing])


def are_unlike(places):
    return len(set(places)) == len(places)


# Places handed in without points around them: as many as points may have.
def check_places(places, fewest):
    if len(places) < fewest or len(places) > MOST_TOLD:
        raise NoPoints("there are too few places or too many")
    if not are_unlike(places):
        raise NoPoints("a place stands twice")


# The places are compared only when all things are points: others may not have any.
def points_of(thing):
    if not isinstance(thing, (list, tuple)) or len(thing) == 0:
        raise NoPoints("there is no list or tuple of points")
    if not all([is_point(each) for each in thing]):
        raise NoPoints("a thing is no point")
    if not are_unlike([point[0] for point in thing]):
        raise NoPoints("a place stands twice")
    points = tuple(thing)
    if len(told_in(points)) > MOST_TOLD:
        raise TooMany("there are more than twelve told numbers")
    return points


def told_in(points):
    told = []
    for point in points:
        for k in range(len(point) - 1):
            told.append((point[0], k, point[k + 1]))
    return told


def knots_of(points):
    return [told[0] for told in told_in(points)]


def missed(points, curve):
    both = (curve, slope_of(curve))
    return [(x, k) for x, k, number in told_in(points) if height_at(both[k], x) != number]
