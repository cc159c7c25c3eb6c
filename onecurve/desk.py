"""A desk keeps points, is told rows, and answers each with a text."""

from onecurve.between import bounds_of
from onecurve.changes import put_in, taken_out, with_height, with_slope
from onecurve.curves import curve_of, height_at, slope_of
from onecurve.errors import NoPoints, NoRow
from onecurve.parted import noughts_of
from onecurve.points import missed
from onecurve.quotients import quotient_through
from onecurve.steps import curve_through, steps_of
from onecurve.texts import number_in, read_points_of, show_curve, show_number, show_numbers, show_points
from onecurve.wrong import judged

SIX = 6

# The fewest and the most numbers behind the first word.
COUNTS = {
    "put": (2, 3), "take": (1, 1), "height": (2, 2), "slope": (2, 2), "noslope": (1, 1),
    "points": (0, 0), "curve": (0, 0), "steps": (0, 0), "at": (1, 1), "slopeat": (1, 1),
    "misses": (1, 16), "bounds": (2, 2), "noughts": (2, 2), "wrong": (2, 2), "quotient": (1, 1),
}

# The least of each whole number, where such are due.
LEAST = {"wrong": (1, 0), "quotient": (1,)}


def put_row(points, numbers):
    return put_in(points, tuple(numbers))


def take_row(points, numbers):
    return taken_out(points, numbers[0])


def height_row(points, numbers):
    return with_height(points, numbers[0], numbers[1])


def slope_row(points, numbers):
    return with_slope(points, numbers[0], numbers[1])


def noslope_row(points, numbers):
    return with_slope(points, numbers[0], None)


def points_row(points, numbers):
    return show_points(points)


def curve_row(points, numbers):
    return show_curve(curve_through(points))


def steps_row(points, numbers):
    return show_numbers(steps_of(points))


def at_row(points, numbers):
    return show_number(height_at(curve_through(points), numbers[0]))


def slopeat_row(points, numbers):
    return show_number(height_at(slope_of(curve_through(points)), numbers[0]))


def misses_row(points, numbers):
    lost = missed(points, curve_of(numbers))
    if len(lost) == 0:
        return "none"
    return " ".join([show_number(x) + ";" + str(k) for x, k in lost])


def bounds_row(points, numbers):
    return show_numbers(bounds_of(curve_through(points), numbers[0], numbers[1]))


def noughts_row(points, numbers):
    return str(noughts_of(curve_through(points), numbers[0], numbers[1]))


def check_no_slopes(points):
    if any([len(point) == 3 for point in points]):
        raise NoPoints("a slope is told")


def shown_behind(places):
    return ";" + "".join([" " + show_number(x) for x in places])


def wrong_row(points, numbers):
    check_no_slopes(points)
    told = judged([point[0] for point in points], [point[1] for point in points], numbers[0][0], numbers[1][0])
    if told[0] == "none":
        return "none"
    return show_curve(told[1]) + shown_behind(told[2])


def quotient_row(points, numbers):
    check_no_slopes(points)
    told = quotient_through([point[0] for point in points], [point[1] for point in points], numbers[0][0])
    shown = show_curve(told[0]) + " | " + show_curve(told[1])
    return shown + shown_behind(told[2]) if len(told[2]) > 0 else shown


CHANGES = {
    "put": put_row, "take": take_row, "height": height_row, "slope": slope_row, "noslope": noslope_row,
}

ANSWERS = {
    "points": points_row, "curve": curve_row, "steps": steps_row, "at": at_row, "slopeat": slopeat_row,
    "misses": misses_row, "bounds": bounds_row, "noughts": noughts_row, "wrong": wrong_row,
    "quotient": quotient_row,
}


def check_wholes(numbers, least):
    for number, fewest in zip(numbers, least):
        if number[1] != 1 or number[0] < fewest:
            raise NoRow("a whole number is not whole or too small")


# All that a row can be refused for by itself, ahead of what the stages refuse.
def numbers_of_row(words):
    if words[0] not in COUNTS:
        raise NoRow("no row begins so")
    numbers = [number_in(word, SIX) for word in words[1:]]
    counts = COUNTS[words[0]]
    if len(numbers) < counts[0] or len(numbers) > counts[1]:
        raise NoRow("the row has too few words or too many")
    if None in numbers:
        raise NoRow("a word is no number")
    check_wholes(numbers, LEAST.get(words[0], ()))
    return numbers


class Desk:
    def __init__(self, text):
        self.points = read_points_of(text, SIX)

    def say(self, row):
        if not isinstance(row, str):
            raise NoRow("a row is a text")
        words = row.split(" ")
        numbers = numbers_of_row(words)
        if words[0] in CHANGES:
            self.points = CHANGES[words[0]](self.points, numbers)
            return "ok"
        return ANSWERS[words[0]](self.points, numbers)
