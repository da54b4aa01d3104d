"""Numbers at the limits of point 5, and beyond: fields of degree 16, many digits, numbers that lie close together."""

import random
import unittest
from decimal import Decimal, localcontext
from fractions import Fraction
from math import gcd

from compasswork.numbers import Number
from compasswork.polynomials import roots_below


def root(n):
    return Number(n).root()


def value_at(polynomial, number):
    total = Number(0)
    for n in reversed(polynomial):
        total = total * number + Number(n)
    return total


def combined(integers, basis):
    total = Number(0)
    for n, part in zip(integers, basis):
        total = total + Number(n) * part
    return total


def some_integers(chance, count, most):
    return [chance.randint(-most, most) if chance.random() < 0.5 else 0 for _ in range(count)]


def next_root(chance, basis, most):
    """Integers that combine the basis to a number above 0 that is no square in the field, and its root."""
    while True:
        integers = some_integers(chance, len(basis), most)
        square = combined(integers, basis)
        if square.sign() < 0:
            integers, square = [-n for n in integers], -square
        found = square.root()
        whole = combined(range(1, len(basis) + 1), basis)
        if (whole + found).degree() == 2 * len(basis):
            return integers, found


def field_made_twice(chance, roots, most):
    """The same products of roots twice, the second time from the roots of other numbers."""
    one, other = [Number(1)], [Number(1)]
    for _ in range(roots):
        integers, found = next_root(chance, one, most)
        factor = combined(some_integers(chance, len(other), most), other) + Number(most * len(other) * most)
        again = (combined(integers, other) * factor * factor).root().over(factor)
        if again.sign() < 0:
            again = -again
        one = one + [part * found for part in one]
        other = other + [part * again for part in other]
    return one, other


class SameFieldTwice(unittest.TestCase):
    def check(self, seed, roots, most):
        chance = random.Random(seed)
        one, other = field_made_twice(chance, roots, most)
        for _ in range(3):
            integers, more = some_integers(chance, len(one), most), some_integers(chance, len(one), most)
            a, b = combined(integers, one), combined(integers, other)
            c, d = combined(more, one), combined(more, other)
            self.assertEqual(a, b)
            self.assertFalse(a.below(b) or b.below(a))
            self.assertEqual((a - b).rational(), (0, 1))
            self.assertEqual(a + d, b + c)
            self.assertEqual(a * d, b * c)
            self.assertEqual((a.polynomial(), a.place()), (b.polynomial(), b.place()))
            self.assertEqual((a * b).root(), a if a.sign() > 0 else -b)
            self.assertEqual(a.below(d), (a - c).sign() < 0)

    def test_degree_4(self):
        for seed in range(8):
            self.check(seed, 2, 9)

    def test_degree_8(self):
        for seed in range(6):
            self.check(seed, 3, 9)

    def test_degree_16(self):
        for seed in range(5):
            self.check(seed, 4, 9)

    def test_degree_16_with_more_digits(self):
        for seed in range(3):
            self.check(seed, 4, 10 ** 8)


class PolynomialAndPlace(unittest.TestCase):
    def check(self, number):
        polynomial, place = number.polynomial(), number.place()
        self.assertEqual(value_at(polynomial, number), Number(0))
        self.assertGreater(polynomial[-1], 0)
        self.assertEqual(gcd(*polynomial), 1)
        self.assertEqual(number.degree(), len(polynomial) - 1)
        if number.rational() is not None:
            self.assertEqual((len(polynomial), place), (2, 0))
            return
        # The roots of these polynomials lie further apart than this, so the place can be counted by itself.
        unit = 10 ** 300
        low = (number * Number(unit)).floor()
        self.assertEqual(roots_below(polynomial, low, unit), place)
        self.assertEqual(roots_below(polynomial, low + 1, unit), place + 1)

    def test_numbers_of_small_fields_among_great_ones(self):
        for seed in range(6):
            basis, again = field_made_twice(random.Random(seed), 4, 3)
            a, b, c, d = basis[1], basis[2], again[4], again[8]
            for number in (a, b, c, d, a * b, a + b, a * d, a * c + b, b * d + a, (a + b) * (a - b), c * c - b * b,
                           a + d):
                self.check(number)
                if number.degree() <= 8:
                    # The field stays within the limits, although the number was made in a great one.
                    more = number + root(1000003)
                    self.assertEqual(more.degree(), 2 * number.degree())
                    self.assertEqual(more - root(1000003), number)

    def test_roots_of_numbers_of_small_fields(self):
        a, b, c, d = root(2), root(3), root(5), (Number(7) + root(2)).root()
        for number in (a * b, a * b + c * a + Number(7), d * d + b * b, a * b * c, (a * b + c).root()):
            found = number.root()
            self.assertEqual(found * found, number)
            self.assertEqual(found.degree(), 2 * number.degree())
            self.check(found)

    def test_least_field_with_one_quadratic_field(self):
        a, b = root(2), root(3)
        number = (Number(2) + a).root() * b
        self.assertEqual((number.polynomial(), number.place()), ((18, 0, -12, 0, 1), 3))
        self.check(number)
        for number in ((Number(3) + b).root() * a, (Number(2) + a).root() * (Number(3) + a).root() + a,
                       (Number(2) + a).root() * b + a, (Number(1) + a).root() * (Number(1) + b).root() * root(5)):
            self.check(number)
            self.check(number * root(7))

    def test_known_degrees(self):
        a, b, c, d = root(2), root(3), root(5), root(7)
        for number, degree in ((a * b * c * d, 2), (a * b + c * d, 4), (a * b + b * c + c * a, 4),
                               (a * b + b * c + c * d, 8),
                               (a + b * c * d, 4), (a + b + c * d, 8), (a + b + c + d, 16), ((a + b) * (c + d), 8),
                               ((a + b + c + d) * (a - b), 8), ((a + b) * (a + b) + c, 4)):
            self.assertEqual(number.degree(), degree)
            self.check(number)

    def test_roots_beside_complex_ones(self):
        # Not all roots of these polynomials are real.
        one, other = (Number(1) + root(2)).root(), (Number(3) + root(5)).root()
        for number in (one, other, one * other, one + other, one - other, (one * one + other).root()):
            self.check(number)

    def test_cosine_of_the_polygon_with_17_corners(self):
        s = root(17)
        t = (Number(34) - Number(2) * s).root()
        u = (Number(34) + Number(2) * s).root()
        # t and u lie in one field: their product is 8 root 17.
        self.assertEqual(t * u, Number(8) * s)
        v = (Number(17) + Number(3) * s - t - Number(2) * u).root()
        corner = (s + t + Number(2) * v - Number(1)).over(Number(16))
        self.assertEqual(corner.polynomial(), (1, -8, -40, 80, 240, -192, -448, 128, 256))
        self.assertEqual(corner.place(), 7)

    def test_thousand_digits(self):
        number = root(2) + root(3) + root(5) + root(7)
        unit = 10 ** 60
        small = number - Number((number * Number(unit)).floor(), unit)
        polynomial = small.polynomial()
        self.assertEqual(len(polynomial), 17)
        self.assertGreater(max(abs(n) for n in polynomial), 10 ** 950)
        self.assertEqual((small.sign(), small.floor(), small.place()), (1, 0, 15))
        self.check(small)
        self.assertEqual((small * small).root(), small)
        self.assertEqual(Number(1).over(small) * small, Number(1))

    def test_nested_roots_with_many_digits(self):
        n = 10 ** 60 + 7
        number = (Number(n) + (Number(n + 1) + root(n + 2)).root()).root()
        self.assertEqual(number.degree(), 8)
        self.check(number)
        self.assertEqual((number * number - Number(n)) * (number * number - Number(n)) - Number(n + 1), root(n + 2))

    def test_three_hundred_digits(self):
        n, d = 10 ** 299 + 7, 10 ** 299 + 9
        number = Number(n, d).root()
        self.assertEqual(number.polynomial(), (-n, 0, d))
        self.assertEqual((number * number).rational(), (n, d))
        self.assertEqual(Number(n * n, 4).root(), Number(n, 2))
        self.assertEqual((number * Number(d)).floor(), 10 ** 299 + 7)


class CloseNumbers(unittest.TestCase):
    def test_rational_beside_a_root(self):
        for digits in (10, 100, 290):
            unit = 10 ** digits
            low = Number((root(2) * Number(unit)).floor(), unit)
            high = low + Number(1, unit)
            self.assertTrue(low.below(root(2)) and root(2).below(high))
            self.assertFalse(root(2).below(low) or high.below(root(2)))
            self.assertFalse(low == root(2) or high == root(2))
            self.assertEqual(((root(2) - low).sign(), (root(2) - high).sign()), (1, -1))

    def test_sum_beside_a_root(self):
        total = root(10 ** 30 + 57) + root(3)
        for digits in (50, 200, 420):
            unit = Number(10 ** digits)
            low = Number((total * total * unit).floor(), 10 ** digits).root()
            high = (total * total + Number(1, 10 ** digits)).root()
            self.assertTrue(low.below(total) and total.below(high))
            self.assertFalse(low == total or high == total)
            self.assertFalse(total.below(low) or high.below(total))
            self.assertEqual(low.degree(), 2)
            self.assertEqual((high.degree(), high.place()), (4, 3))

    def test_almost_an_integer(self):
        power = Number(1)
        for _ in range(400):
            power = power * (root(2) - Number(1))
        # Less than 10 ** -150, and above 0.
        self.assertEqual((power.sign(), power.floor(), (-power).floor()), (1, 0, -1))
        self.assertEqual(((Number(5) - power).floor(), (Number(5) + power).floor()), (4, 5))
        self.assertTrue((Number(5) - power).below(Number(5)))
        self.assertTrue((power * Number(10 ** 150)).below(Number(1)))

    def test_sums_of_roots(self):
        # The roots of the sums begin with the same 20 digits.
        one = root(10 ** 20 + 1) + root(10 ** 20 + 4)
        other = root(10 ** 20 + 2) + root(10 ** 20 + 3)
        self.assertTrue(one.below(other))
        self.assertFalse(one == other)
        self.assertEqual((one - other).degree(), 16)

    def test_close_roots_of_one_polynomial(self):
        tiny = Number(1, 10 ** 100)
        for place, a in enumerate((-root(2) - root(3), root(2) - root(3), root(3) - root(2), root(2) + root(3))):
            number = Number(1) + tiny * a
            self.assertEqual((number.degree(), number.place()), (4, place))


    def test_close_to_complex_roots(self):
        # The other roots are those of a number just above 0, or just below.
        n = 10 ** 30
        for sign, place in ((-1, 3), (1, 1)):
            number = (Number(n) + root(n * n + sign)).root()
            self.assertEqual((number.polynomial(), number.place()), ((-sign, 0, -2 * n, 0, 1), place))


class Chains(unittest.TestCase):
    """Numbers that were made by way of many fields, each call within the limits."""

    def test_roots_that_cancel(self):
        number = root(2) + root(3)
        for n in range(5, 200):
            number = number + root(n)
            number = number - root(n)
        self.assertEqual(number, root(2) + root(3))
        self.assertEqual(number.polynomial(), (1, 0, -10, 0, 1))

    def test_roots_that_cancel_in_nested_ones(self):
        number = root(2)
        for n in range(3, 40):
            nested = (Number(n) + root(n + 1)).root()
            number = (number * nested + nested).over(nested) - Number(1)
        self.assertEqual(number, root(2))

    def test_products_leave_no_field_behind(self):
        last = []
        number = Number(0)
        for p, q in ((2, 3), (5, 7), (11, 13), (17, 19), (23, 29), (31, 37), (41, 43), (47, 53)):
            number = number + root(p) * root(q)
            last = last + [p * q]
            if len(last) > 3:
                number = number - root(last[0])
                last = last[1:]
            self.assertEqual(number, sum((root(n) for n in last), Number(0)))
            self.assertEqual(number.degree(), 2 ** len(last))

    def test_product_of_many_roots(self):
        number, square = Number(1), 1
        for n in range(1000, 1100):
            number, square = number * root(n), square * n
            self.assertLessEqual(number.degree(), 2)
        self.assertEqual(number, root(square))
        self.assertEqual(number * number, Number(square))

    def test_rotation_comes_back(self):
        # Rotation by 1 / 48 of a turn, with the cosine and the sine in a field of degree 8.
        cosine = ((Number(2) + (Number(2) + root(3)).root()).root()) * Number(1, 2)
        sine = (Number(1) - cosine * cosine).root()
        x, y = Number(1), Number(0)
        for _ in range(24):
            x, y = x * cosine - y * sine, x * sine + y * cosine
        self.assertEqual((x, y), (Number(-1), Number(0)))

    def test_beyond_the_limits(self):
        number = root(2) + root(3) + root(5) + root(7) + root(11)
        self.assertEqual((number.degree(), number.place()), (32, 31))
        self.assertEqual(number - root(11) - root(7), root(2) + root(3) + root(5))


class Digits(unittest.TestCase):
    def test_against_decimals(self):
        chance = random.Random(4)
        with localcontext() as context:
            context.prec = 120
            for _ in range(40):
                start = chance.randint(1, 50)
                number, decimal = Number(start), Decimal(start)
                for _ in range(3):
                    n, d = chance.randint(1, 999), chance.randint(1, 999)
                    kind = chance.randrange(3)
                    if kind == 0:
                        number, decimal = number.root() + Number(n, d), decimal.sqrt() + Decimal(n) / d
                    elif kind == 1:
                        number, decimal = (number + Number(n)).root(), (decimal + n).sqrt()
                    else:
                        number, decimal = Number(n).over(number) + root(d), n / decimal + Decimal(d).sqrt()
                self.assertEqual((number * Number(10 ** 80)).floor(), int(decimal * 10 ** 80))
                near = Fraction(decimal).limit_denominator(10 ** 50)
                self.assertEqual(number.below(Number(near.numerator, near.denominator)), Fraction(decimal) < near)


if __name__ == "__main__":
    unittest.main()
