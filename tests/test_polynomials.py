import random
import unittest
from fractions import Fraction
from math import gcd, isqrt

from helpers import product, with_roots

from compasswork.polynomials import divisor, rational_roots, root_count, root_span, roots_below

BIG = 10 ** 99 + 289


class RootCount(unittest.TestCase):
    def test_constants_have_none(self):
        for n in (1, -1, 7, -BIG):
            self.assertEqual(root_count((n,)), 0)
            self.assertEqual(roots_below((n,), 5, 3), 0)
            self.assertEqual(rational_roots((n,)), ())

    def test_ordinary(self):
        for polynomial, count in (((3, 2), 1), ((0, 1), 1), ((-2, 0, 1), 2), ((1, 0, 1), 0), ((2, 0, -1), 2),
                                  ((0, 0, 1), 1), ((0, 0, 0, 0, 0, 0, 0, 0, -3), 1), ((-2, 0, 0, 1), 1),
                                  ((1, -3, 0, 1), 3), ((1, 1, 1), 0), ((1, 0, -10, 0, 1), 4),
                                  ((-1, 0, 0, 0, 0, 0, 0, 0, 1), 2), ((1, 0, 0, 0, 0, 0, 0, 0, 1), 0)):
            self.assertEqual(root_count(polynomial), count)
            self.assertEqual(root_count(tuple(-n for n in polynomial)), count)

    def test_roots_that_stand_several_times_count_once(self):
        self.assertEqual(root_count(with_roots(1, 1)), 1)
        self.assertEqual(root_count(with_roots(1, 1, 2, 2, 2, -3, -3, Fraction(1, 2))), 4)
        self.assertEqual(root_count(product((-2, 0, 1), (-2, 0, 1), (1, 0, 1), (1, 0, 1))), 2)
        self.assertEqual(root_count(with_roots(*[BIG // 10 ** 87] * 8)), 1)

    def test_roots_close_to_each_other(self):
        # x ** 8 - 2 (m x - 1) ** 2 has two roots that differ by less than 1 / m ** 5, beside 1 / m.
        for m in (10, 10 ** 20, 10 ** 49):
            polynomial = (-2, 4 * m, -2 * m * m, 0, 0, 0, 0, 0, 1)
            self.assertEqual(root_count(polynomial), 4)
            self.assertEqual(roots_below(polynomial, 1, m), 2)
            self.assertEqual(roots_below(polynomial, m ** 4 - 1, m ** 5), 1)
            self.assertEqual(roots_below(polynomial, m ** 4 + 1, m ** 5), 3)
            self.assertEqual(rational_roots(polynomial), ())

    def test_almost_a_double_root(self):
        for sign, count in ((-1, 2), (0, 1), (1, 0)):
            self.assertEqual(root_count((BIG * BIG + sign, -2 * BIG, 1)), count)


class RootsBelow(unittest.TestCase):
    def test_ordinary(self):
        polynomial = with_roots(-2, Fraction(-1, 3), 0, 5)
        for n, d, count in ((-3, 1, 0), (-2, 1, 0), (-1, 1, 1), (-1, 3, 1), (-1, 4, 2), (0, 1, 2), (0, 9, 2),
                            (1, 1000, 3), (5, 1, 3), (10, 2, 3), (11, 2, 4), (BIG, 1, 4), (-BIG, 1, 0)):
            self.assertEqual(roots_below(polynomial, n, d), count)
            self.assertEqual(roots_below(tuple(-m for m in polynomial), n, d), count)

    def test_roots_that_stand_twice(self):
        polynomial = with_roots(1, 1, Fraction(3, 2), Fraction(3, 2), Fraction(3, 2), 2, 2)
        for n, d, count in ((1, 2, 0), (1, 1, 0), (5, 4, 1), (3, 2, 1), (6, 4, 1), (7, 4, 2), (2, 1, 2), (3, 1, 3)):
            self.assertEqual(roots_below(polynomial, n, d), count)

    def test_close_to_a_rational_root(self):
        n, d = BIG, BIG + 2
        polynomial = with_roots(Fraction(n, d), 0, 2)
        self.assertEqual(roots_below(polynomial, n, d), 1)
        self.assertEqual(roots_below(polynomial, n * BIG - 1, d * BIG), 1)
        self.assertEqual(roots_below(polynomial, n * BIG + 1, d * BIG), 2)

    def test_close_to_an_irrational_root(self):
        d = 10 ** 99
        n = isqrt(2 * d * d)
        polynomial = product((-2, 0, 1), (-2, 0, 1), (-3, 0, 0, 1))
        self.assertEqual((roots_below(polynomial, n, d), roots_below(polynomial, n + 1, d)), (1, 2))
        self.assertEqual((roots_below(polynomial, -n - 1, d), roots_below(polynomial, -n, d)), (0, 1))

    def test_all_integers_of_hundred_digits(self):
        chance = random.Random(2)
        for _ in range(10):
            polynomial = tuple(chance.randint(10 ** 99, 10 ** 100) * chance.choice((-1, 1)) for _ in range(9))
            count = root_count(polynomial)
            self.assertEqual(roots_below(polynomial, 10 ** 100, 1), count)
            self.assertEqual(roots_below(polynomial, -10 ** 100, 1), 0)
            steps = [roots_below(polynomial, n, 10) for n in range(-20, 21)]
            self.assertEqual(steps, sorted(steps))


class RationalRoots(unittest.TestCase):
    def test_ordinary(self):
        self.assertEqual(rational_roots((0, 1)), ((0, 1),))
        self.assertEqual(rational_roots((3, 2)), ((-3, 2),))
        self.assertEqual(rational_roots((-3, -2)), ((-3, 2),))
        self.assertEqual(rational_roots((-2, 0, 1)), ())
        self.assertEqual(rational_roots((-4, 0, 9)), ((-2, 3), (2, 3)))
        self.assertEqual(rational_roots((1, 0, 1)), ())
        self.assertEqual(rational_roots((0, 0, 0, 4)), ((0, 1),))
        self.assertEqual(rational_roots(product((0, 1), (-2, 0, 1), (3, 6), (-1, 0, 4))), ((-1, 2), (0, 1), (1, 2)))

    def test_beside_irrational_roots_that_lie_close(self):
        d = 10 ** 48
        n = isqrt(2 * d * d)
        polynomial = product((-2, 0, 1), (-n, d), (-n - 1, d))
        expected = sorted([Fraction(n, d), Fraction(n + 1, d)])
        self.assertEqual(rational_roots(polynomial), tuple((x.numerator, x.denominator) for x in expected))

    def test_close_to_each_other(self):
        m = 10 ** 24
        polynomial = with_roots(Fraction(m, m + 1), Fraction(m + 1, m + 2), Fraction(m - 1, m), 1)
        self.assertEqual(rational_roots(polynomial), ((m - 1, m), (m, m + 1), (m + 1, m + 2), (1, 1)))

    def test_greatest_and_least(self):
        self.assertEqual(rational_roots((-BIG, 1)), ((BIG, 1),))
        self.assertEqual(rational_roots((-1, BIG)), ((1, BIG),))
        self.assertEqual(rational_roots((BIG, 0, 0, 0, 0, 0, 0, 0, -BIG)), ((-1, 1), (1, 1)))

    def test_any(self):
        chance = random.Random(3)
        for digits in (1, 2, 12):
            for _ in range(40):
                most = 10 ** digits
                count = chance.randint(1, 4)
                roots = [Fraction(chance.randint(-most, most), chance.randint(1, most)) for _ in range(count)]
                roots = roots + roots[:chance.randint(0, 2)]
                others = chance.choice(((5,), (2, 0, -1), (1, 1, 1), (-3,)))
                polynomial = product(with_roots(*roots), others)
                expected = tuple((x.numerator, x.denominator) for x in sorted(dict.fromkeys(roots)))
                self.assertEqual(rational_roots(polynomial), expected)
                self.assertEqual(root_count(polynomial), len(expected) + 2 * (others == (2, 0, -1)))
                if others != (2, 0, -1):
                    for k, (n, d) in enumerate(expected):
                        self.assertEqual(roots_below(polynomial, n, d), k)


class Divisor(unittest.TestCase):
    def test_ordinary(self):
        self.assertEqual(divisor((-1, 0, 1), (1, 2, 1)), (1, 1))
        self.assertEqual(divisor((-2, 0, 1), (-3, 0, 1)), (1,))
        self.assertEqual(divisor((6,), (4,)), (1,))
        self.assertEqual(divisor((-6,), (-4, -8)), (1,))
        self.assertEqual(divisor((2, 4), (3, 6)), (1, 2))
        self.assertEqual(divisor((-2, -4), (-3, -6)), (1, 2))
        self.assertEqual(divisor((0, 6), (0, 0, 0, 4)), (0, 1))
        self.assertEqual(divisor((-4, 0, 2), (-4, 0, 2)), (-2, 0, 1))

    def test_rational_quotients_suffice(self):
        self.assertEqual(divisor((1, 2), (1, 1, -2)), (1, 2))
        self.assertEqual(divisor((3, 6), (5, 10)), (1, 2))

    def test_one_divides_the_other(self):
        one, other = (-2, 0, 6), product((-1, 0, 3), (4, 5, 6), (7, -8))
        self.assertEqual(divisor(one, other), (-1, 0, 3))
        self.assertEqual(divisor(other, one), (-1, 0, 3))

    def test_powers(self):
        one, other = product((1, 2), (1, 2), (1, 2), (3, 1)), product((1, 2), (1, 2), (3, 1), (3, 1))
        self.assertEqual(divisor(one, other), product((1, 2), (1, 2), (3, 1)))

    def test_any(self):
        chance = random.Random(5)
        for digits in (1, 10, 30):
            for _ in range(40):
                most = 10 ** digits
                common = product(*[(chance.randint(-most, most), chance.randint(1, most))
                                   for _ in range(chance.randint(0, 3))])
                # These have no common root, whatever their integers: one is below, the other above 0 at all places.
                one = product(common, (chance.choice((-2, 1)) * (1 + chance.randint(0, most)),))
                other = product(common, (1 + chance.randint(0, most), 0, chance.randint(1, most)))
                content = gcd(*common)
                expected = tuple(n // content for n in common)
                self.assertEqual(divisor(one, other), expected)
                self.assertEqual(divisor(other, one), expected)

    def test_hundred_digits(self):
        common = (BIG // 10 ** 50, -7, 10 ** 49)
        one, other = product(common, (BIG % 10 ** 49, 1)), product(common, (1, BIG % 10 ** 48))
        content = gcd(*common)
        self.assertEqual(divisor(one, other), tuple(n // content for n in common))
        self.assertEqual(divisor((BIG,) * 9, (BIG + 1,) * 9), (1,) * 9)
        self.assertEqual(divisor((BIG,) * 9, (BIG + 1,) * 8), (1,))


class RootSpan(unittest.TestCase):
    def spans(self, polynomial):
        """That the span of each real root has this root alone; returns the spans."""
        count = root_count(polynomial)
        found = [root_span(polynomial, place) for place in range(count)]
        for place, (low, high, d) in enumerate(found):
            self.assertEqual(roots_below(polynomial, low, d), place)
            self.assertEqual(roots_below(polynomial, high, d), place + 1)
        for place in (-1, -count, -count - 1, count, count + 1, BIG):
            if not 0 <= place < count:
                self.assertIsNone(root_span(polynomial, place))
        return found

    def test_ordinary(self):
        for polynomial in ((3, 2), (0, 1), (-2, 0, 1), (2, 0, -1), (1, -3, 0, 1), (1, 0, -10, 0, 1), (-1, 0, 4),
                           (0, 0, 0, 0, 5), (-6, 2, 3, -1), (24, -50, 35, -10, 1)):
            self.assertEqual(len(self.spans(polynomial)), root_count(polynomial))

    def test_none(self):
        for polynomial in ((5,), (1, 0, 1), (1, 0, 2, 0, 1)):
            self.assertEqual(self.spans(polynomial), [])

    def test_roots_that_stand_several_times_count_once(self):
        self.assertEqual(len(self.spans(with_roots(1, 1, 2, 2, 2, -3, -3, Fraction(1, 2)))), 4)

    def test_close_to_each_other_and_far_away(self):
        for m in (10, 10 ** 20, 10 ** 49):
            self.assertEqual(len(self.spans((-2, 4 * m, -2 * m * m, 0, 0, 0, 0, 0, 1))), 4)
        self.assertEqual(len(self.spans((-BIG, 1))), 1)
        self.assertEqual(len(self.spans((BIG, BIG, BIG, 1))), 1)

    def test_rational_roots_at_the_ends(self):
        # Halves of whole spans, down to a root itself.
        for n in range(-20, 21):
            self.spans(with_roots(Fraction(n, 8), Fraction(n + 1, 8), 3))


class KindsOfValues(unittest.TestCase):
    def test_answers(self):
        self.assertIs(divisor((2, 4), (3, 6)).__class__, tuple)
        self.assertIs(rational_roots((3, 2)).__class__, tuple)
        self.assertIs(rational_roots((3, 2))[0].__class__, tuple)
        self.assertIs(root_count((3, 2)).__class__, int)
        self.assertIs(roots_below((3, 2), 1, 1).__class__, int)


if __name__ == "__main__":
    unittest.main()
