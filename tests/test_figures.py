import random
import unittest
from fractions import Fraction

from compasswork import figures
from compasswork.figures import lies_on, meets, same
from compasswork.numbers import Number


def root(n, d=1):
    return Number(n, d).root()


def number(n):
    """A Number from an integer, a fraction or a Number."""
    if isinstance(n, Number):
        return n
    return Number(Fraction(n).numerator, Fraction(n).denominator)


def point(x, y):
    return number(x), number(y)


def line(a, b, c, d):
    return "line", point(a, b), point(c, d)


def circle(u, v, a, b, c, d):
    return "circle", point(u, v), point(a, b), point(c, d)


def around(u, v, radius):
    """A circle with a radius from the origin."""
    return circle(u, v, 0, 0, radius, 0)


def less(one, other):
    return one[0].below(other[0]) or one[0] == other[0] and one[1].below(other[1])


HALF = Fraction(1, 2)

# Two figures that are not the same, and their meets, all made anew at each call.
MEETS = (
    # Lines.
    lambda: (line(0, 0, 1, 1), line(0, 2, 2, 0), [(1, 1)]),
    lambda: (line(0, 0, 1, 0), line(3, 5, 3, 7), [(3, 0)]),
    lambda: (line(0, 0, 1, 2), line(1, 0, 0, 1), [(Fraction(1, 3), Fraction(2, 3))]),
    lambda: (line(0, 0, 1, 1), line(0, 1, 1, 2), []),
    lambda: (line(0, 0, 0, 1), line(1, 0, 1, 5), []),
    lambda: (line(0, 3, 1, 3), line(0, 4, -6, 4), []),
    lambda: (line(0, 0, 1, root(2)), line(0, root(2), 1, 0), [(HALF, root(1, 2))]),
    lambda: (line(0, 0, 1, root(2)), line(0, 1, root(2), 3), []),
    lambda: (line(0, 0, 1, root(2) + root(3)), line(5, 0, 5, 1), [(5, root(50) + root(75))]),
    # A circle and a line.
    lambda: (around(0, 0, 5), line(0, 0, 1, 0), [(-5, 0), (5, 0)]),
    lambda: (around(0, 0, 5), line(1, 0, 0, 0), [(-5, 0), (5, 0)]),
    lambda: (around(0, 0, 5), line(0, 0, 0, 1), [(0, -5), (0, 5)]),
    lambda: (around(0, 0, 5), line(0, 1, 0, 0), [(0, -5), (0, 5)]),
    lambda: (around(0, 0, 5), line(3, 0, 3, 1), [(3, -4), (3, 4)]),
    lambda: (around(0, 0, 5), line(-3, 1, -3, 0), [(-3, -4), (-3, 4)]),
    lambda: (around(0, 0, 5), line(0, 4, 1, 4), [(-3, 4), (3, 4)]),
    lambda: (around(0, 0, 5), line(0, 1, 1, 0), [(-3, 4), (4, -3)]),
    lambda: (around(0, 0, 5), line(0, -1, 1, 0), [(-3, -4), (4, 3)]),
    lambda: (around(0, 0, 5), line(5, 0, 5, 1), [(5, 0)]),
    lambda: (around(0, 0, 5), line(0, -5, 1, -5), [(0, -5)]),
    lambda: (around(0, 0, 5), line(6, 0, 6, 1), []),
    lambda: (around(1, 2, 1), line(0, 0, 1, 0), []),
    lambda: (around(1, 2, 2), line(0, 0, 1, 0), [(1, 0)]),
    lambda: (around(1, 2, 3), line(0, 0, 1, 0), [(Number(1) - root(5), 0), (Number(1) + root(5), 0)]),
    lambda: (around(0, 0, root(2)), line(2, 0, 0, 2), [(1, 1)]),
    lambda: (around(0, 0, root(2)), line(1, 1, 0, 0), [(-1, -1), (1, 1)]),
    lambda: (around(0, 0, root(2) + root(3)), line(0, 0, 0, 1), [(0, -root(2) - root(3)), (0, root(2) + root(3))]),
    lambda: (circle(0, 0, 1, 0, 0, 1), line(0, 0, 1, 0), [(-root(2), 0), (root(2), 0)]),
    # Two circles.
    lambda: (around(0, 0, 1), around(1, 0, 1), [(HALF, -root(3, 4)), (HALF, root(3, 4))]),
    lambda: (around(0, 0, 1), around(0, 1, 1), [(-root(3, 4), HALF), (root(3, 4), HALF)]),
    lambda: (around(0, 0, 5), around(7, 1, 5), [(3, 4), (4, -3)]),
    lambda: (around(0, 0, 5), around(-1, 7, 5), [(-4, 3), (3, 4)]),
    lambda: (around(0, 0, 1), around(2, 0, 1), [(1, 0)]),
    lambda: (around(0, 0, 3), around(1, 0, 2), [(3, 0)]),
    lambda: (around(0, 0, 3), around(0, -1, 2), [(0, -3)]),
    lambda: (around(0, 0, 1), around(3, 0, 1), []),
    lambda: (around(0, 0, 3), around(1, 0, 1), []),
    lambda: (around(0, 0, 1), around(0, 0, 2), []),
    lambda: (around(root(2), root(3), 1), around(root(2), root(3), root(5)), []),
    lambda: (around(0, 0, root(2)), around(root(8), 0, root(2)), [(root(2), 0)]),
    lambda: (around(0, 0, root(2)), around(2, 0, root(2)), [(1, -1), (1, 1)]),
    lambda: (around(0, 0, root(2) + root(3)), around(root(3), 0, root(2)), [(root(2) + root(3), 0)]),
    lambda: (circle(0, 0, 9, 9, 9, 10), circle(1, 0, 3, 3, 4, 3), [(HALF, -root(3, 4)), (HALF, root(3, 4))]),
)


class Interface(unittest.TestCase):
    def test_functions_are_defined_in_the_file(self):
        for name in ("meets", "same", "lies_on"):
            self.assertEqual(getattr(figures, name).__module__, "compasswork.figures")


class Meets(unittest.TestCase):
    def test_meets(self):
        for case in MEETS:
            one, other, expected = case()
            expected = tuple([point(x, y) for x, y in expected])
            for found in (meets(one, other), meets(other, one)):
                self.assertEqual(found, expected, (one, other))
                self.assertIs(type(found), tuple)
                for meet in found:
                    self.assertIs(type(meet), tuple)
                    self.assertEqual([type(part) for part in meet], [Number, Number])

    def test_nearly_touching(self):
        # The root of 2 and the root of 3 are about 3.14626436994197 together.
        one = around(0, 0, root(2) + root(3))
        for digits, many in (("3.14626436994197", 2), ("3.14626436994198", 0), ("-3.14626436994197", 2),
                             ("-3.14626436994198", 0)):
            self.assertEqual(len(meets(one, line(Fraction(digits), 0, Fraction(digits), 1))), many)
            self.assertEqual(len(meets(one, around(Fraction(digits) * 2, 0, Fraction(digits)))), many)
        self.assertEqual(len(meets(one, line(root(2) + root(3), 0, root(2) + root(3), 1))), 1)

    def test_many_digits(self):
        great = 10 ** 30
        self.assertEqual(meets(around(0, 0, great), line(great, 0, great, 1)), (point(great, 0),))
        self.assertEqual(meets(around(0, 0, great), line(great + 1, 0, great + 1, 1)), ())
        below = Number(2 * great - 1).root()
        self.assertEqual(meets(around(0, 0, great), line(great - 1, 0, great - 1, 1)),
                         (point(great - 1, -below), point(great - 1, below)))

    def test_integers(self):
        chance = random.Random(1)
        counts = {}
        for _ in range(900):
            one, other = some_figure(chance), some_figure(chance)
            if same(one, other):
                continue
            found = meets(one, other)
            self.assertEqual(len(found), many_meets(one, other), (one, other))
            self.are_meets(found, one, other)
            kind = (one[0], other[0], len(found))
            counts[kind] = counts.get(kind, 0) + 1
        self.assertEqual(len(counts), 11, counts)

    def are_meets(self, found, one, other):
        for meet in found:
            self.assertTrue(on(meet, one) and on(meet, other))
        if len(found) == 2:
            self.assertTrue(less(found[0], found[1]))

    def test_fields_of_degree_16(self):
        for seed in range(12):
            chance = random.Random(seed)
            common = number_of_degree_16(chance), number_of_degree_16(chance)
            one, other = figure_through(chance, common), figure_through(chance, common)
            found = meets(one, other)
            self.assertIn(common, found)
            self.are_meets(found, one, other)
            self.assertTrue(lies_on(common, one) and lies_on(common, other))
            self.assertFalse(same(one, other))

    def test_roots_that_the_numbers_do_not_need(self):
        # These have the degree 4, but come by three roots that are not in the others' fields.
        x = (Number(10) + root(17)).root() + (Number(10) - root(17)).root()
        y = (Number(10) + root(19)).root() + (Number(10) - root(19)).root()
        self.assertEqual(meets(line(x, 0, x, 1), line(0, y, 1, y)), (point(x, y),))
        one = line(x, y, x + number(3), y + number(4))
        found = meets(circle(x, y, 0, 0, 5, 0), one)
        self.assertEqual(found, (point(x - number(3), y - number(4)), point(x + number(3), y + number(4))))
        self.assertTrue(lies_on(found[0], one))
        self.assertTrue(same(one, ("line",) + found))

    def test_arguments_stay(self):
        one, other = around(0, 0, 1), around(1, 0, 1)
        before = [[part.polynomial() for pair in figure[1:] for part in pair] for figure in (one, other)]
        meets(one, other)
        after = [[part.polynomial() for pair in figure[1:] for part in pair] for figure in (one, other)]
        self.assertEqual(before, after)


class Same(unittest.TestCase):
    def are(self, answer, one, other):
        self.assertIs(same(one, other), answer)
        self.assertIs(same(other, one), answer)

    def test_lines(self):
        self.are(True, line(0, 0, 1, 1), line(0, 0, 1, 1))
        self.are(True, line(0, 0, 1, 1), line(1, 1, 0, 0))
        self.are(True, line(0, 0, 1, 2), line(-3, -6, 5, 10))
        self.are(True, line(4, 0, 4, 1), line(4, 7, 4, -9))
        self.are(True, line(0, 4, 1, 4), line(7, 4, -9, 4))
        self.are(True, line(0, 0, 1, root(2)), line(root(2), 2, root(18), 6))
        self.are(False, line(0, 0, 1, 1), line(0, 0, 1, 2))
        self.are(False, line(0, 0, 1, 1), line(0, 1, 1, 2))
        self.are(False, line(4, 0, 4, 1), line(5, 0, 5, 1))
        self.are(False, line(0, 4, 1, 4), line(0, 5, 1, 5))
        self.are(False, line(0, 0, 0, 1), line(0, 0, 1, 0))
        self.are(False, line(0, 0, 1, root(2)), line(0, 0, 1, -root(2)))
        self.are(False, line(0, 0, 1, root(2)), line(0, 0, 10 ** 15, 1414213562373095))

    def test_circles(self):
        self.are(True, around(0, 0, 1), around(0, 0, 1))
        self.are(True, around(0, 0, 1), around(0, 0, -1))
        self.are(True, circle(1, 2, 0, 0, 3, 4), circle(1, 2, 7, 7, 12, 7))
        self.are(True, circle(1, 2, 0, 0, 1, 1), around(1, 2, root(2)))
        self.are(True, around(root(2), 0, root(2) + root(3)), around(root(8) * number(HALF), 0,
                                                                    (number(5) + root(24)).root()))
        self.are(False, around(0, 0, 1), around(0, 0, 2))
        self.are(False, around(0, 0, 1), around(1, 0, 1))
        self.are(False, around(0, 0, 1), around(0, 1, 1))
        self.are(False, around(0, 0, root(2)), around(0, 0, Fraction(1414213562373095, 10 ** 15)))

    def test_never_a_line_and_a_circle(self):
        self.are(False, line(0, 0, 1, 0), circle(0, 0, 0, 0, 1, 0))
        self.are(False, line(0, 0, 1, 0), around(0, 1, 1))

    def test_made_otherwise(self):
        for seed in range(6):
            chance = random.Random(seed)
            p, q = some_point(chance), some_point(chance)
            away = q[0] - p[0], q[1] - p[1]
            factor = root(7) + number(chance.randint(1, 9))
            further = p[0] + factor * away[0], p[1] + factor * away[1]
            beside = further[0], further[1] + number(Fraction(1, 10 ** 20))
            self.are(True, ("line", p, q), ("line", further, q))
            self.are(False, ("line", p, q), ("line", beside, q))
            turned = p[0] - away[1], p[1] + away[0]
            self.are(True, ("circle", q, p, q), ("circle", q, turned, p))
            self.are(False, ("circle", q, p, q), ("circle", q, turned, q))


class LiesOn(unittest.TestCase):
    def is_on(self, answer, place, figure):
        self.assertIs(lies_on(place, figure), answer)

    def test_lines(self):
        self.is_on(True, point(0, 0), line(0, 0, 1, 1))
        self.is_on(True, point(7, 7), line(0, 0, 1, 1))
        self.is_on(False, point(7, 8), line(0, 0, 1, 1))
        self.is_on(True, point(4, root(3)), line(4, 0, 4, 1))
        self.is_on(False, point(root(17), 4), line(4, 0, 4, 1))
        self.is_on(True, point(root(3), 4), line(0, 4, 1, 4))
        self.is_on(True, point(root(3), root(6)), line(0, 0, 1, root(2)))
        self.is_on(False, point(root(3), root(5)), line(0, 0, 1, root(2)))
        self.is_on(False, point(1, Fraction(1414213562373095, 10 ** 15)), line(0, 0, 1, root(2)))

    def test_circles(self):
        self.is_on(True, point(3, 4), around(0, 0, 5))
        self.is_on(True, point(-3, -4), around(0, 0, 5))
        self.is_on(False, point(0, 0), around(0, 0, 5))
        self.is_on(False, point(3, 5), around(0, 0, 5))
        self.is_on(True, point(1, 1), around(0, 0, root(2)))
        self.is_on(True, point(HALF, root(3, 4)), around(0, 0, 1))
        self.is_on(False, point(HALF, root(2, 4)), around(0, 0, 1))
        self.is_on(True, point(5, 1), circle(2, 1, 0, 0, 0, 3))


def some_figure(chance):
    """A figure with small integers as coordinates; some of the circles are large enough to meet others."""
    points = []
    while len(points) < 2:
        pair = point(chance.randint(-3, 3), chance.randint(-3, 3))
        if pair not in points:
            points.append(pair)
    if chance.random() < 0.5:
        return "line", points[0], points[1]
    return "circle", point(chance.randint(-3, 3), chance.randint(-3, 3)), points[0], points[1]


def plain(pair):
    return [Fraction(*part.rational()) for part in pair]


def distance(p, q):
    """The square of the distance."""
    return (p[0] - q[0]) * (p[0] - q[0]) + (p[1] - q[1]) * (p[1] - q[1])


def turn(p, q, r):
    return (q[0] - p[0]) * (r[1] - p[1]) - (q[1] - p[1]) * (r[0] - p[0])


def on(place, figure):
    """Whether a point is on a figure, by Numbers alone."""
    if figure[0] == "line":
        return turn(figure[1], figure[2], place) == Number(0)
    return distance(figure[1], place) == distance(figure[2], figure[3])


def many_meets(one, other):
    """How many meets two figures have, by distances of rational points."""
    if one[0] == "circle":
        one, other = other, one
    first, second = [plain(pair) for pair in one[1:]], [plain(pair) for pair in other[1:]]
    if one[0] == "line" and other[0] == "line":
        return 0 if turn(first[0], first[1], second[0]) == turn(first[0], first[1], second[1]) else 1
    radius = distance(second[1], second[2])
    if one[0] == "line":
        away = turn(first[0], first[1], second[0]) ** 2
        return 1 + sign(radius * distance(first[0], first[1]) - away)
    apart, other_radius = distance(first[0], second[0]), distance(first[1], first[2])
    if apart == 0:
        return 0
    # A triangle with these squares of sides has a surface, none, or does not exist.
    return 1 + sign(4 * apart * radius - (apart + radius - other_radius) ** 2)


def sign(n):
    return (n > 0) - (n < 0)


def number_of_degree_16(chance):
    """A number of a field of degree 16, that is not always the same one."""
    parts = [root(2), root(3), (number(2) + root(2)).root(), (number(1) + root(3)).root()]
    total = number(Fraction(chance.randint(-9, 9), chance.randint(1, 9)))
    for part in chance.sample(parts, chance.randint(1, 4)):
        total = total * number(chance.randint(1, 5)) + part * number(chance.randint(-5, 5))
    return total


def some_point(chance):
    return number_of_degree_16(chance), number_of_degree_16(chance)


def figure_through(chance, place):
    if chance.random() < 0.4:
        return "line", place, some_point(chance)
    centre, away = some_point(chance), some_point(chance)
    return "circle", centre, (centre[0] + away[0], centre[1] + away[1]), (place[0] + away[0], place[1] + away[1])


if __name__ == "__main__":
    unittest.main()
