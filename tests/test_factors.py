import random
import unittest

from helpers import product

from compasswork.factors import depressed, factors, resolvent_roots
from compasswork.polynomials import divisor, rational_roots


class Factors(unittest.TestCase):
    def test_ordinary(self):
        for polynomial, found in (
                ((5, 10), [(1, 2)]),
                ((0, -3), [(0, 1)]),
                ((-2, 0, 1), [(-2, 0, 1)]),
                ((2, 0, -2), [(1, 1), (-1, 1)]),
                ((3, 0, 3), [(1, 0, 1)]),
                ((0, 0, 0, 4), [(0, 1)]),
                ((-2, 0, 0, 1), [(-2, 0, 0, 1)]),
                ((2, -2, 0, -1, 1), [(-1, 1), (-2, 0, 0, 1)]),
                ((1, 0, 0, 0, 1), [(1, 0, 0, 0, 1)]),
                ((1, 0, 2, 0, 1), [(1, 0, 1)]),
                ((-4, 0, 0, 0, 9), [(-2, 0, 3), (2, 0, 3)]),
                ((4, 0, 0, 0, 1), [(2, -2, 1), (2, 2, 1)]),
                ((1, 0, 1, 0, 1), [(1, -1, 1), (1, 1, 1)]),
                ((6, 0, -5, 0, 1), [(-3, 0, 1), (-2, 0, 1)]),
                ((6, 0, 5, 0, 1), [(2, 0, 1), (3, 0, 1)]),
                ((1, 0, -7, 0, 1), [(1, -3, 1), (1, 3, 1)]),
                ((1, 0, -10, 0, 1), [(1, 0, -10, 0, 1)]),
                ((-1, -1, 0, 0, 1), [(-1, -1, 0, 0, 1)])):
            self.assertEqual(sorted(factors(polynomial)), sorted(found))

    def test_products_of_two_of_degree_2(self):
        chance = random.Random(4)
        for most in (3, 30, 10 ** 6):
            for _ in range(40):
                halves = [(chance.randint(-most, most), chance.randint(-most, most), chance.randint(1, most))
                          for _ in range(2)]
                if [rational_roots(half) for half in halves] == [(), ()]:
                    expected = sorted(set(divisor(half, half) for half in halves))
                    self.assertEqual(sorted(factors(product(*halves, (-7,)))), expected)


class Resolvent(unittest.TestCase):
    def test_depressed(self):
        # With z = 4 c4 x + c3, the polynomial in z is (4 c4) ** 4 / c4 times the one in x.
        chance = random.Random(5)
        for _ in range(40):
            polynomial = tuple([chance.randint(-9, 9) for _ in range(4)] + [chance.choice((-5, -1, 1, 2, 7))])
            p, q, r = depressed(polynomial)
            lead = polynomial[4]
            for x in (-2, 0, 1, 5, 100):
                z = 4 * lead * x + polynomial[3]
                whole = sum([n * x ** k for k, n in enumerate(polynomial)])
                self.assertEqual(z ** 4 + p * z ** 2 + q * z + r, 256 * lead ** 3 * whole)

    def test_rational_roots(self):
        self.assertEqual(resolvent_roots((1, 0, -10, 0, 1)), [0, 16 * 8, 16 * 12])
        self.assertEqual(resolvent_roots((-2, 0, 0, 0, 1)), [0])
        self.assertEqual(resolvent_roots((-1, -1, 0, 0, 1)), [])
        # u is 4 for this one: it is the product of x ** 2 + 2 x + 2 and x ** 2 - 2 x + 2.
        self.assertIn(4 * 16, resolvent_roots((4, 0, 0, 0, 1)))


if __name__ == "__main__":
    unittest.main()
