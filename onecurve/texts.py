"""Numbers, curves and points written as texts, and read where they are so written."""

from onecurve.curves import NOUGHT, curve_of
from onecurve.errors import NoText
from onecurve.numbers import is_number
from onecurve.points import points_of

MOST_FIGURES = 60
MOST_NUMBERS = 16
FIGURES = "0123456789"


def show_number(number):
    if number[1] == 1:
        return str(number[0])
    return str(number[0]) + "/" + str(number[1])


def show_numbers(numbers):
    return " ".join([show_number(number) for number in numbers])


def show_curve(curve):
    return show_numbers(curve) if len(curve) > 0 else "0"


def show_point(point):
    return ":".join([show_number(number) for number in point])


def show_points(points):
    return ", ".join([show_point(point) for point in points])


def are_figures(text, most):
    if len(text) == 0 or len(text) > most:
        return False
    if text[0] == "0" and len(text) > 1:
        return False
    return all([sign in FIGURES for sign in text])


def is_top(text, most):
    if text.startswith("-"):
        return text != "-0" and are_figures(text[1:], most)
    return are_figures(text, most)


# None where the text is no number of at most so many figures.
def number_in(text, most):
    parts = text.split("/")
    if len(parts) > 2 or not is_top(parts[0], most):
        return None
    if len(parts) == 1:
        return (int(text), 1)
    if parts[1] == "1" or not are_figures(parts[1], most):
        return None
    number = (int(parts[0]), int(parts[1]))
    return number if is_number(number) else None


def check_text(text):
    if not isinstance(text, str):
        raise NoText("there is no text")


def numbers_in(parts, most):
    numbers = [number_in(part, most) for part in parts]
    if None in numbers:
        raise NoText("a number is not written so")
    return numbers


def read_number(text):
    check_text(text)
    return numbers_in([text], MOST_FIGURES)[0]


def read_curve(text):
    check_text(text)
    numbers = numbers_in(text.split(" "), MOST_FIGURES)
    if len(numbers) > MOST_NUMBERS:
        raise NoText("a curve has at most sixteen numbers")
    if len(numbers) > 1 and numbers[-1] == NOUGHT:
        raise NoText("the last number of a curve is not 0")
    return curve_of(numbers)


# Each point is read ahead of what is asked of points in all.
def read_points_of(text, most):
    check_text(text)
    points = []
    for part in text.split(", "):
        point = tuple(numbers_in(part.split(":"), most))
        if len(point) not in (2, 3):
            raise NoText("a point has two or three numbers")
        points.append(point)
    return points_of(points)


def read_points(text):
    return read_points_of(text, MOST_FIGURES)
