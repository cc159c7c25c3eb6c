"""Curves: tuples of numbers by powers, the last of them not 0.

Longer reckonings bring a curve to whole tops over one bottom and go to lowest
terms once, at the end: going there at each step would cost most of the time.
"""

from onecurve.numbers import common_measure, minus, number_of, plus, times

NOUGHT = (0, 1)


def curve_of(numbers):
    width = len(numbers)
    while width > 0 and numbers[width - 1] == NOUGHT:
        width = width - 1
    return tuple(numbers[:width])


# The least whole number that every bottom divides.
def bottom_of(numbers):
    bottom = 1
    for number in numbers:
        bottom = bottom * (number[1] // common_measure(bottom, number[1]))
    return bottom


def tops_over(numbers, bottom):
    return [number[0] * (bottom // number[1]) for number in numbers]


def curve_over(tops, bottom):
    return curve_of([number_of(top, bottom) for top in tops])


# The height times the scale, and the scale, a power of the bottom of x that is alike
# for lists of one length.
def whole_height(tops, x):
    height = 0
    scale = 1
    for top in reversed(tops):
        height = height * x[0] + top * scale
        scale = scale * x[1]
    return (height * x[1], scale)


def height_at(curve, x):
    bottom = bottom_of(curve)
    told = whole_height(tops_over(curve, bottom), x)
    return number_of(told[0], bottom * told[1])


def number_at(curve, k):
    return curve[k] if k < len(curve) else NOUGHT


def added(one, other):
    width = max(len(one), len(other))
    return curve_of([plus(number_at(one, k), number_at(other, k)) for k in range(width)])


def lessened(one, other):
    width = max(len(one), len(other))
    return curve_of([minus(number_at(one, k), number_at(other, k)) for k in range(width)])


def whole_product(first, second):
    product = [0] * (len(first) + len(second) - 1)
    for k in range(len(first)):
        for j in range(len(second)):
            product[k + j] = product[k + j] + first[k] * second[j]
    return product


def multiplied(one, other):
    bottom = bottom_of(one)
    under = bottom_of(other)
    product = whole_product(tops_over(one, bottom), tops_over(other, under))
    return curve_over(product, bottom * under)


def scaled(curve, number):
    return curve_of([times(each, number) for each in curve])


def slope_of(curve):
    return tuple([times(curve[k], (k, 1)) for k in range(1, len(curve))])


# The scale goes as in whole_height, with the line in the stead of x.
def with_line(curve, a, b):
    under = bottom_of([b, a])
    line = tops_over([b, a], under)
    bottom = bottom_of(curve)
    tops = []
    scale = 1
    for top in reversed(tops_over(curve, bottom)):
        tops = whole_product(tops, line)
        tops[0] = tops[0] + top * scale
        scale = scale * under
    return curve_over([top * under for top in tops], bottom * scale)
