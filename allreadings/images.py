"""Images of shapes by forms, and the worths of a form over a shape."""

from allreadings.basics import product_sum
from allreadings.fractions import greatest, least, minus, opposite, whole
from allreadings.rowsof import moved_row, row_of, worth_at
from allreadings.shapes import hull, shape_of, system_of


def image(shape, forms):
    """The shape of the images of the points."""
    if shape[0] == "empty":
        return ("empty", len(forms))
    points = [[worth_at(form, corner) for form in forms] for corner in shape[3]]
    directions = [tuple([product_sum(form, way) for form in forms]) for way in shape[4]]
    return hull(len(forms), points, [direction for direction in directions if any(direction)])


def behind(shape, forms):
    """The shape of the points whose image is in the shape."""
    many = len(forms[0])
    rows = []
    for numbers, most in system_of(shape)[1]:
        rows.append((tuple([sum([a * form[k] for a, form in zip(numbers, forms)]) for k in range(many)]), most))
    return shape_of((many, rows))


def moved_shape(shape, point):
    """The shape with the point added to each of its points."""
    many, rows = system_of(shape)
    return shape_of((many, [moved_row(row, point) for row in rows]))


def bounds(shape, numbers):
    """The least and the greatest worth of the form, None for an endless one; None alone of an empty shape."""
    if shape[0] == "empty":
        return None
    worths = [worth_at(numbers, corner) for corner in shape[3]]
    ways = [product_sum(numbers, way) for way in shape[4]]
    low = None if any([way < 0 for way in ways]) else least(worths)
    high = None if any([way > 0 for way in ways]) else greatest(worths)
    return (low, high)


def width(shape, numbers):
    """The greatest worth less the least one; None if one of them is missing, nought of an empty shape."""
    told = bounds(shape, numbers)
    if told is None:
        return whole(0)
    low, high = told
    return None if low is None or high is None else minus(high, low)


def greatest_face(shape, numbers):
    """The shape of the points that have the greatest worth; empty if there is none."""
    told = bounds(shape, numbers)
    if told is None or told[1] is None:
        return ("empty", shape[1])
    row = row_of([whole(-number) for number in numbers], opposite(told[1]))
    return shape_of((shape[1], shape[2] + [row]))
