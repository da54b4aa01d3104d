import unittest
from unittest import mock

from compasswork.errors import NegativeRoot, ZeroDivisor
from compasswork.numbers import Number

METHODS = ("__init__", "__add__", "__sub__", "__mul__", "__neg__", "__eq__", "below", "over", "root", "sign", "floor",
           "polynomial", "degree", "place", "rational")


def root(n, d=1):
    return Number(n, d).root()


def half():
    return Number(1, 2)


# Numbers, made anew at each call, with their polynomials and places.
KNOWN = (
    (lambda: Number(0), (0, 1), 0),
    (lambda: Number(5), (-5, 1), 0),
    (lambda: Number(-6, 4), (3, 2), 0),
    (lambda: root(2), (-2, 0, 1), 1),
    (lambda: -root(2), (-2, 0, 1), 0),
    (lambda: root(1, 3), (-1, 0, 3), 1),
    (lambda: root(9, 4), (-3, 2), 0),
    (lambda: (Number(1) + root(5)) * half(), (-1, -1, 1), 1),
    (lambda: (Number(1) - root(5)) * half(), (-1, -1, 1), 0),
    (lambda: root(7).over(Number(3)) - half(), (-19, 36, 36), 1),
    (lambda: root(2) + root(3), (1, 0, -10, 0, 1), 3),
    (lambda: root(3) - root(2), (1, 0, -10, 0, 1), 2),
    (lambda: root(2) - root(3), (1, 0, -10, 0, 1), 1),
    (lambda: -root(2) - root(3), (1, 0, -10, 0, 1), 0),
    (lambda: root(2) * root(3), (-6, 0, 1), 1),
    (lambda: (Number(2) + root(2)).root(), (2, 0, -4, 0, 1), 3),
    (lambda: -(Number(2) + root(2)).root(), (2, 0, -4, 0, 1), 0),
    (lambda: (Number(5) + Number(2) * root(6)).root(), (1, 0, -10, 0, 1), 3),
    (lambda: (Number(3) + Number(2) * root(2)).root(), (-1, -2, 1), 1),
    (lambda: (Number(2) - root(3)).root(), (1, 0, -4, 0, 1), 2),
    (lambda: Number(1).over(root(2) + root(3) + Number(1)), (-1, 4, 4, -16, 8), 1),
    (lambda: (Number(2) + (Number(2) + root(2)).root()).root(), (2, 0, -16, 0, 20, 0, -8, 0, 1), 7),
    (lambda: (Number(2) + root(3)).root() * (Number(2) - root(3)).root(), (-1, 1), 0),
    (lambda: (Number(10) + root(17)).root() + (Number(10) - root(17)).root(), (68, 0, -40, 0, 1), 3),
    (lambda: (Number(1) + root(2)).root() + root(3), (4, 0, -128, 0, 68, 0, -16, 0, 1), 3),
    (lambda: root(2) + root(3) + root(5), (576, 0, -960, 0, 352, 0, -40, 0, 1), 7),
    (lambda: root(2).root(), (-2, 0, 0, 0, 1), 1),
    (lambda: root(3).root().root().root(), (-3,) + (0,) * 15 + (1,), 1),
    (lambda: root(2) + root(3) + root(5) + root(7),
     (46225, 0, -5596840, 0, 13950764, 0, -7453176, 0, 1513334, 0, -141912, 0, 6476, 0, -136, 0, 1), 15),
    (lambda: (Number(5) + (Number(2) + (Number(3) + root(7)).root()).root()).root(),
     (276669, 0, -483920, 0, 365192, 0, -155360, 0, 40768, 0, -6760, 0, 692, 0, -40, 0, 1), 11),
)


class Operators(unittest.TestCase):
    def test_methods_stand_in_the_class(self):
        for name in METHODS:
            self.assertIn(name, vars(Number))

    def test_default_denominator(self):
        self.assertEqual(Number(7), Number(7, 1))
        self.assertEqual(Number(n=6, d=4), Number(3, 2))

    def test_rational_numbers(self):
        self.assertEqual(Number(1, 2) + Number(1, 3), Number(5, 6))
        self.assertEqual(Number(1, 2) - Number(1, 3), Number(1, 6))
        self.assertEqual(Number(-3, 4) * Number(2, 3), Number(-1, 2))
        self.assertEqual(-Number(3, 4), Number(3, -4))
        self.assertEqual(Number(3, 4).over(Number(-9, 2)), Number(-1, 6))

    def test_roots(self):
        self.assertEqual(root(2) * root(2), Number(2))
        self.assertEqual(root(2) * root(8), Number(4))
        self.assertEqual(root(2) + root(8), root(18))
        self.assertEqual(root(8) - root(2), root(2))
        self.assertEqual(root(6).over(root(2)), root(3))
        self.assertEqual(-(root(2) - root(3)), root(3) - root(2))
        self.assertEqual(root(2) - root(2), Number(0))
        self.assertEqual(Number(1).over(root(2)), root(1, 2))
        self.assertEqual(Number(1).over(root(3) - root(2)), root(3) + root(2))

    def test_root_of_squares(self):
        self.assertEqual(root(0), Number(0))
        self.assertEqual(root(49), Number(7))
        self.assertEqual(root(49, 36), Number(7, 6))
        for number in (Number(-3, 5), root(2) - root(3), -root(7).root(), root(5) - Number(2)):
            square = number * number
            self.assertEqual(square.root(), -number if number.sign() < 0 else number)

    def test_root_is_not_below_zero(self):
        for number in (Number(2), root(2), root(3) - root(2), Number(3) - root(8), root(3).root()):
            self.assertEqual(number.root().sign(), 1)
            self.assertEqual(number.root() * number.root(), number)

    def test_quotients(self):
        numbers = [make() for make, _, _ in KNOWN[:20]]
        for one in numbers:
            for other in numbers:
                if other.sign() != 0:
                    self.assertEqual(one.over(other) * other, one)

    def test_zero_divisor(self):
        zeros = (Number(0), Number(0, -7), root(0), root(2) - root(2),
                 root(2) + root(3) - (Number(5) + Number(2) * root(6)).root())
        for zero in zeros:
            for number in (Number(1), Number(0), root(2)):
                with self.assertRaises(ZeroDivisor):
                    number.over(zero)

    def test_zero_divisor_of_integers(self):
        for n in (0, 1, -1, 10 ** 299):
            with self.assertRaises(ZeroDivisor):
                Number(n, 0)

    def test_negative_root(self):
        for number in (Number(-1), Number(1, -10 ** 200), -root(2), root(2) - root(3),
                       Number(10 ** 40) - root(10 ** 80 + 1)):
            with self.assertRaises(NegativeRoot):
                number.root()


class Order(unittest.TestCase):
    def test_equality(self):
        self.assertIs(Number(2, 4) == Number(1, 2), True)
        self.assertIs(Number(2, 4) != Number(1, 2), False)
        self.assertIs(root(2) == Number(1), False)
        self.assertIs(root(2) != root(3), True)
        self.assertIs(root(2) == -root(2), False)

    def test_made_differently(self):
        self.assertEqual(root(2) + root(3), (Number(5) + root(24)).root())
        self.assertEqual((Number(2) + root(3)).root(), (root(6) + root(2)) * half())
        self.assertEqual((Number(7) + Number(4) * root(3)).root(), Number(2) + root(3))
        self.assertEqual((root(2) + root(3)) * (root(5) + root(7)), root(10) + root(14) + root(15) + root(21))
        self.assertEqual((Number(10) + root(17)).root() + (Number(10) - root(17)).root(),
                         (Number(20) + Number(2) * root(83)).root())
        self.assertEqual((root(2) - root(3)) * (root(2) - root(3)), Number(5) - root(24))
        self.assertEqual(root(2).root() * root(2).root(), root(8) * half())

    def test_equals_nothing_else(self):
        for number in (Number(1), Number(0), root(2), root(2) * root(2)):
            for other in (0, 1, 2, 1.0, True, None, "1", (1, 1), [], object(), mock.ANY):
                self.assertIs(number == other, False)
                self.assertIs(number != other, True)
            self.assertNotIn(number, (0, 1, 2))

    def test_nothing_else_is_added(self):
        for other in (1, 1.0, None, "1"):
            with self.assertRaises(TypeError):
                Number(1) + other
            with self.assertRaises(TypeError):
                Number(1) - other
            with self.assertRaises(TypeError):
                Number(1) * other

    def test_below(self):
        rising = [Number(-2), -root(3), -root(2), Number(-1, 10 ** 50), Number(0), Number(1, 10 ** 50),
                  root(2) - Number(1), root(1, 2), Number(1), root(2), Number(3, 2), (Number(2) + root(2)).root(),
                  Number(2), root(2) + root(3)]
        for i, one in enumerate(rising):
            for j, other in enumerate(rising):
                self.assertIs(one.below(other), i < j)
                self.assertEqual(one == other, i == j)

    def test_below_an_equal_number(self):
        self.assertIs((root(2) + root(3)).below((Number(5) + root(24)).root()), False)
        self.assertIs((Number(5) + root(24)).root().below(root(2) + root(3)), False)

    def test_sign(self):
        for number, sign in ((Number(0), 0), (Number(-1, 3), -1), (Number(-1, -3), 1), (root(2) - Number(1), 1),
                             (root(2) - root(3), -1), (root(2) + root(3) - (Number(5) + root(24)).root(), 0)):
            self.assertEqual(number.sign(), sign)

    def test_floor(self):
        for number, floor in ((Number(7, 2), 3), (Number(-7, 2), -4), (Number(4), 4), (Number(-4), -4),
                              (Number(0), 0), (Number(1, 9), 0), (Number(-1, 9), -1),
                              (root(2), 1), (-root(2), -2), (root(2) * root(2), 2),
                              (root(2) + root(3), 3), (root(10 ** 60 + 1), 10 ** 30),
                              (-root(10 ** 60 + 1), -10 ** 30 - 1),
                              (root(10 ** 60 - 1), 10 ** 30 - 1), (Number(10 ** 30) - root(10 ** 60 + 1), -1)):
            self.assertEqual(number.floor(), floor)
            self.assertIs(int, number.floor().__class__)


class Known(unittest.TestCase):
    def test_polynomial(self):
        for make, polynomial, _ in KNOWN:
            self.assertEqual(make().polynomial(), polynomial)
            self.assertIs(tuple, make().polynomial().__class__)

    def test_degree(self):
        for make, polynomial, _ in KNOWN:
            self.assertEqual(make().degree(), len(polynomial) - 1)

    def test_place(self):
        for make, _, place in KNOWN:
            self.assertEqual(make().place(), place)

    def test_rational(self):
        self.assertEqual(Number(6, -4).rational(), (-3, 2))
        self.assertEqual(Number(0, -9).rational(), (0, 1))
        self.assertEqual(root(9, 4).rational(), (3, 2))
        self.assertEqual(((root(2) + root(3)) * (root(2) - root(3))).rational(), (-1, 1))
        self.assertEqual((root(2).root() * root(2).root()).over(root(18)).rational(), (1, 3))
        for make, polynomial, _ in KNOWN:
            if len(polynomial) > 2:
                self.assertIsNone(make().rational())
            else:
                self.assertEqual(make().rational(), (-polynomial[0], polynomial[1]))

    def test_same_number_same_polynomial_and_place(self):
        for make, polynomial, place in KNOWN:
            number = (make() + root(2) + root(3)) - (Number(5) + root(24)).root()
            self.assertEqual(number, make())
            self.assertEqual((number.polynomial(), number.place()), (polynomial, place))

    def test_numbers_do_not_change(self):
        for make, polynomial, place in KNOWN:
            number = make()
            before = vars(number).copy()
            (number + root(11), number - Number(1, 7), number * number, -number)
            (number == root(2), number.below(root(2)))
            (root(7).over(number + Number(100)), number.over(root(7)), (number * number).root(), number.sign())
            (number.floor(), number.rational(), number.degree(), number.place(), number.polynomial())
            self.assertEqual(vars(number), before)
            self.assertEqual((number.polynomial(), number.place()), (polynomial, place))
            self.assertEqual(number, make())


if __name__ == "__main__":
    unittest.main()
