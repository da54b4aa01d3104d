"""Points, lines and circles: when they are the same, and where they meet."""

from compasswork.fields import Field
from compasswork.shapes import circle_shape, line_shape, on_shape, same_shapes, shape_meets


def meets(one, other):
    """The tuple of the points that two figures have in common, ascending."""
    field = Field()
    first, second = _two_shapes(field, one, other)
    return tuple([(field.number(x), field.number(y)) for x, y in shape_meets(field, first, second)])


def same(one, other):
    """Whether two figures have the same points."""
    field = Field()
    first, second = _two_shapes(field, one, other)
    return same_shapes(field, first, second)


def lies_on(point, figure):
    """Whether a point is on a figure."""
    field = Field()
    points = _points_in(field, (point,) + figure[1:])
    return on_shape(field, points[0], _shape(field, figure[0], points[1:]))


def _two_shapes(field, one, other):
    points = _points_in(field, one[1:] + other[1:])
    many = len(one) - 1
    return _shape(field, one[0], points[:many]), _shape(field, other[0], points[many:])


def _points_in(field, points):
    """Points of numbers as points of elements of the field."""
    found = field.holding([number for point in points for number in point])
    return [(found[2 * k], found[2 * k + 1]) for k in range(len(points))]


def _shape(field, word, points):
    if word == "line":
        return line_shape(field, points[0], points[1])
    return circle_shape(field, points[0], points[1], points[2])
