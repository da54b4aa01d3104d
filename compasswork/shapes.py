"""Points and figures over the elements of a field (compasswork.fields).

A point is a pair of elements. A line is ("line", a, b, c): the points for which a x + b y + c is 0, where a and b
are not both 0. A circle is ("circle", u, v, s): the centre and the square of the radius, which is above 0.
"""

from compasswork.fields import whole_element

ZERO = ((0,), 1)


def line_shape(field, one, other):
    """The line through two different points."""
    a = field.minus(one[1], other[1])
    b = field.minus(other[0], one[0])
    return "line", a, b, _cross(field, one, other)


def _cross(field, one, other):
    return field.minus(field.product(one[0], other[1]), field.product(one[1], other[0]))


def circle_shape(field, centre, one, other):
    """The circle around the centre with the distance of two different points as its radius."""
    away = field.minus(one[0], other[0]), field.minus(one[1], other[1])
    return "circle", centre[0], centre[1], _square(field, away)


def _square(field, pair):
    """The sum of the squares of a pair of elements."""
    return field.plus(field.product(pair[0], pair[0]), field.product(pair[1], pair[1]))


def on_shape(field, point, shape):
    """Whether a point is on a figure."""
    if shape[0] == "line":
        return _side_of_line(field, point, shape) == ZERO
    _, u, v, s = shape
    return _square(field, (field.minus(point[0], u), field.minus(point[1], v))) == s


def _side_of_line(field, point, line):
    """What is 0 for the points of the line alone."""
    _, a, b, c = line
    return field.plus(field.plus(field.product(a, point[0]), field.product(b, point[1])), c)


def same_shapes(field, one, other):
    """Whether two figures have the same points."""
    if one[0] != other[0]:
        return False
    if one[0] == "circle":
        return one == other
    # Two lines are the same if a, b and c of one are those of the other, times something.
    for j, k in ((1, 2), (1, 3), (2, 3)):
        if _cross(field, (one[j], one[k]), (other[j], other[k])) != ZERO:
            return False
    return True


def shape_meets(field, one, other):
    """The list of the meets of two figures, ascending; none of two that are the same."""
    if one[0] == "line" and other[0] == "line":
        return _meets_of_lines(field, one, other)
    if one[0] == "line":
        return _meets_with_circle(field, one, other)
    if other[0] == "line":
        return _meets_with_circle(field, other, one)
    return _meets_of_circles(field, one, other)


def _meets_of_lines(field, one, other):
    turn = _cross(field, one[1:3], other[1:3])
    if turn == ZERO:
        return []
    share = field.inverted(turn)
    x = _cross(field, one[2:], other[2:])
    y = _cross(field, (one[3], one[1]), (other[3], other[1]))
    return [(field.product(x, share), field.product(y, share))]


def _meets_of_circles(field, one, other):
    (_, u, v, s), (_, p, q, r) = one, other
    if u == p and v == q:
        return []
    # The difference of what is 0 on the one circle and on the other is 0 on a line through their meets.
    two = whole_element(2)
    a, b = field.product(two, field.minus(p, u)), field.product(two, field.minus(q, v))
    powers = field.minus(_square(field, (u, v)), s), field.minus(_square(field, (p, q)), r)
    return _meets_with_circle(field, ("line", a, b, field.minus(powers[0], powers[1])), one)


def _meets_with_circle(field, line, circle):
    """The meets of a line and a circle."""
    (_, a, b, _), (_, u, v, s) = line, circle
    side = _side_of_line(field, (u, v), line)
    length = _square(field, (a, b))
    square = field.minus(field.product(s, length), field.product(side, side))
    many = field.sign(square) + 1
    if many == 0:
        return []
    # From the point of the line that is nearest to the centre, the meets are as far to both sides.
    share = field.inverted(length)
    near = field.product(side, share)
    x, y = field.minus(u, field.product(near, a)), field.minus(v, field.product(near, b))
    if many == 1:
        return [(x, y)]
    far = field.product(field.root(square), share)
    right, up = field.product(far, b), field.negative(field.product(far, a))
    if field.sign(right) < 0 or right == ZERO and field.sign(up) < 0:
        right, up = field.negative(right), field.negative(up)
    return [(field.minus(x, right), field.minus(y, up)), (field.plus(x, right), field.plus(y, up))]


def known_by(field, thing):
    """What a point or a figure is known by: the same for the same things alone, while the field grows too."""
    if thing[0] != "line":
        return thing
    _, a, b, c = thing
    share = field.inverted(b if a == ZERO else a)
    return "line", field.product(a, share), field.product(b, share), field.product(c, share)
