"""The shares of told numbers, and the weights of places."""

from onecurve.curves import NOUGHT, bottom_of, tops_over
from onecurve.numbers import minus, number_of, over, plus, times
from onecurve.points import check_places, knots_of, told_in
from onecurve.steps import by_steps

ONE = (1, 1)


# Brought to lowest terms once, at the end.
def weight_among(x, others):
    top = 1
    bottom = 1
    for other in others:
        difference = minus(x, other)
        top = top * difference[1]
        bottom = bottom * difference[0]
    return number_of(top, bottom)


def sum_of_turned(x, others):
    total = NOUGHT
    for other in others:
        total = plus(total, over(ONE, minus(x, other)))
    return total


# With x behind all other knots the steps of these are 0, and only the last one or
# two, at x itself, are left: the height's, and one that makes the slope right.
def share_of(points, x, k):
    knots = knots_of(points)
    others = [knot for knot in knots if knot != x]
    weight = weight_among(x, others)
    if k == 1:
        last = [NOUGHT, weight]
    elif len(knots) - len(others) == 2:
        last = [weight, minus(NOUGHT, times(weight, sum_of_turned(x, others)))]
    else:
        last = [weight]
    return by_steps(others + [x] * len(last), [NOUGHT] * len(others) + last)


def shares_of(points):
    return [share_of(points, x, k) for x, k, number in told_in(points)]


def weights_of(places):
    check_places(places, 1)
    return [weight_among(x, [other for other in places if other != x]) for x in places]


# Both sums go over the same bottom, which so falls out of their quotient.
def weighed(places, heights, x):
    weights = weights_of(places)
    if x in places:
        return heights[places.index(x)]
    turned = [over(weight, minus(x, place)) for weight, place in zip(weights, places)]
    pulls = tops_over(turned, bottom_of(turned))
    bottom = bottom_of(heights)
    tops = tops_over(heights, bottom)
    return number_of(sum([pull * top for pull, top in zip(pulls, tops)]), bottom * sum(pulls))
