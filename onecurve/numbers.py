"""Numbers: tuples (top, bottom) of whole numbers in lowest terms, bottom from 1 on."""

from onecurve.errors import NoNumber


# True and False are ints for Python, but no whole numbers here.
def is_whole(thing):
    return isinstance(thing, int) and not isinstance(thing, bool)


def common_measure(one, other):
    great = abs(one)
    small = abs(other)
    while small != 0:
        rest = great % small
        great = small
        small = rest
    return great


# The kinds come first: only of whole numbers can more be asked.
def is_number(thing):
    if not isinstance(thing, tuple) or len(thing) != 2:
        return False
    if not is_whole(thing[0]) or not is_whole(thing[1]):
        return False
    return thing[1] >= 1 and common_measure(thing[0], thing[1]) == 1


def number_of(top, bottom):
    if bottom == 0:
        raise NoNumber("nothing is told over 0")
    measure = common_measure(top, bottom)
    if bottom < 0:
        measure = -measure
    return (top // measure, bottom // measure)


def plus(a, b):
    return number_of(a[0] * b[1] + b[0] * a[1], a[1] * b[1])


def minus(a, b):
    return number_of(a[0] * b[1] - b[0] * a[1], a[1] * b[1])


def times(a, b):
    return number_of(a[0] * b[0], a[1] * b[1])


def over(a, b):
    return number_of(a[0] * b[1], a[1] * b[0])


# Bottoms are above 0, so multiplying by them keeps the order.
def is_less(a, b):
    return a[0] * b[1] < b[0] * a[1]
