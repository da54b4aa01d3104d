import unittest
from math import cos, pi

from helpers import formula_fits

from compasswork import polygons
from compasswork.formulas import value
from compasswork.numbers import Number
from compasswork.polygons import corner
from compasswork.polynomials import roots_below

# The least polynomials of the corners that have a formula, as another program told them.
CORNERS = {
    3: (1, 2),
    4: (0, 1),
    5: (-1, 2, 4),
    6: (-1, 2),
    8: (-1, 0, 2),
    10: (-1, -2, 4),
    12: (-3, 0, 4),
    15: (1, 8, -16, -8, 16),
    16: (1, 0, -8, 0, 8),
    17: (1, -8, -40, 80, 240, -192, -448, 128, 256),
    20: (5, 0, -20, 0, 16),
    24: (1, 0, -16, 0, 16),
    30: (1, -8, -16, 8, 16),
    32: (1, 0, -32, 0, 160, 0, -256, 0, 128),
    34: (1, 8, -40, -80, 240, 192, -448, -128, 256),
    40: (1, 0, -48, 0, 304, 0, -512, 0, 256),
    48: (1, 0, -64, 0, 320, 0, -512, 0, 256),
}


def turned(number, many):
    """T with the index many, at the number."""
    before, last = Number(1), number
    for _ in range(many - 1):
        before, last = last, Number(2) * number * last - before
    return last


class Corner(unittest.TestCase):
    def test_function_is_defined_in_the_file(self):
        self.assertEqual(corner.__module__, polygons.__name__)
        self.assertEqual(corner.__code__.co_varnames[:corner.__code__.co_argcount], ("n",))

    def test_none(self):
        for n in range(3, 51):
            self.assertEqual(corner(n) is None, n not in CORNERS, n)

    def test_formulas_fit(self):
        for n in CORNERS:
            formula_fits(self, corner(n))
            self.assertEqual(corner(n), corner(n))

    def test_three_and_four(self):
        self.assertEqual(value(corner(3)), Number(-1, 2))
        self.assertEqual(value(corner(4)), Number(0))

    def test_least_polynomials(self):
        for n, least in CORNERS.items():
            number = value(corner(n))
            self.assertEqual(number.polynomial(), least, n)
            # No other root of it is as great.
            self.assertEqual(number.place(), roots_below(least, 1, 1) - 1)

    def test_greatest_number_below_1_at_which_t_is_1(self):
        for n in CORNERS:
            number = value(corner(n))
            self.assertEqual(turned(number, n), Number(1), n)
            self.assertTrue(number.below(Number(1)))
            # All numbers at which it is 1 are cosines of whole multiples of the angle; the next one is less.
            following = cos(4 * pi / n) if n > 3 else -1
            middle = round(10 ** 9 * (cos(2 * pi / n) + following) / 2)
            self.assertTrue(Number(middle, 10 ** 9).below(number))

    def test_close_to_the_cosine(self):
        for n in CORNERS:
            floor = (value(corner(n)) * Number(10 ** 12)).floor()
            self.assertAlmostEqual(floor / 10 ** 12, cos(2 * pi / n), delta=10 ** -11)

    def test_somewhat_beyond_the_limits(self):
        for n in (60, 64, 68, 80, 96):
            self.assertEqual(turned(value(corner(n)), n), Number(1))
        for n in (52, 55, 63, 70, 81, 100):
            self.assertIsNone(corner(n))


if __name__ == "__main__":
    unittest.main()
