"""One curve divided by another, and the common part of two curves."""

from onecurve.curves import bottom_of, curve_over, tops_over
from onecurve.errors import NoCurve


def raised(base, many):
    power = 1
    for turn in range(many):
        power = power * base
    return power


# Each step multiplies by the lead instead of dividing by it, so all stays whole:
# first, times the lead once for each number of often, is often times second and rest.
def whole_division(first, second):
    lead = second[-1]
    often = []
    rest = list(first)
    for shift in range(len(first) - len(second), -1, -1):
        top = rest[-1]
        often = [top] + [lead * number for number in often]
        rest = [lead * number for number in rest[:-1]]
        for k in range(len(second) - 1):
            rest[k + shift] = rest[k + shift] - top * second[k]
    return (often, rest)


def divided(one, other):
    if len(other) == 0:
        raise NoCurve("no curve is divided by the nought curve")
    bottom = bottom_of(one)
    under = bottom_of(other)
    second = tops_over(other, under)
    parts = whole_division(tops_over(one, bottom), second)
    scale = bottom * raised(second[-1], len(parts[0]))
    often = curve_over([top * under for top in parts[0]], scale)
    return (often, curve_over(parts[1], scale))


def without_last_noughts(tops):
    width = len(tops)
    while width > 0 and tops[width - 1] == 0:
        width = width - 1
    return tops[:width]


# Rests of rests are wanted only up to a factor. The factor taken out of each is
# known to divide it (it is made of the leads ahead, as for subresultants), so the
# numbers grow evenly from step to step and no common measure has to be sought.
def last_rest(great, small):
    lead = 1
    held = 1
    while len(small) > 0:
        drop = len(great) - len(small)
        factor = lead * raised(held, drop)
        rest = without_last_noughts(whole_division(great, small)[1])
        great = small
        small = [top // factor for top in rest]
        lead = great[-1]
        if drop > 0:
            held = raised(lead, drop) // raised(held, drop - 1)
    return great


def common_part(one, other):
    if len(one) == 0 and len(other) == 0:
        raise NoCurve("two nought curves have no common part")
    first = tops_over(one, bottom_of(one))
    second = tops_over(other, bottom_of(other))
    if len(first) < len(second):
        tops = last_rest(second, first)
    else:
        tops = last_rest(first, second)
    return curve_over(tops, tops[-1])
