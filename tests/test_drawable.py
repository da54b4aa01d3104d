import random
import unittest
from fractions import Fraction

from helpers import formula_fits, product

from compasswork import drawable
from compasswork.drawable import drawn_root, paper_holds
from compasswork.errors import NoRoot, WorkError
from compasswork.formulas import value
from compasswork.numbers import Number
from compasswork.polynomials import divisor, rational_roots, root_count, roots_below

# Polynomials, and the least polynomials of their real roots, ascending. (Told by another program.)
ROOTS = (
    ((0, 1), ((0, 1),)),
    ((0, -7), ((0, 1),)),
    ((6, -4), ((-3, 2),)),
    ((1000, 999), ((1000, 999),)),
    ((-1000, 10), ((-100, 1),)),
    ((-2, 0, 1), ((-2, 0, 1),) * 2),
    ((2, 0, -1), ((-2, 0, 1),) * 2),
    ((-1, -1, 1), ((-1, -1, 1),) * 2),
    ((500, -1000, -250), ((-2, 4, 1),) * 2),
    ((999, 1000, -1000), ((-999, -1000, 1000),) * 2),
    ((0, 0, 3), ((0, 1),)),
    ((4, -4, 1), ((-2, 1),)),
    ((-1, 0, 4), ((1, 2), (-1, 2))),
    ((1, 0, 1), ()),
    ((3, 1, 1), ()),
    ((0, 0, 0, 5), ((0, 1),)),
    ((-1, 3, -3, 1), ((-1, 1),)),
    ((-1, 0, 0, 1), ((-1, 1),)),
    ((8, 0, 0, 27), ((2, 3),)),
    ((0, -2, 0, 1), ((-2, 0, 1), (0, 1), (-2, 0, 1))),
    ((-2, 2, 1, -1), ((-2, 0, 1), (-1, 1), (-2, 0, 1))),
    ((6, -2, -9, 3), ((-2, 0, 3), (-2, 0, 3), (-3, 1))),
    ((2, -3, 0, 1), ((2, 1), (-1, 1))),
    ((0, 2, -5, 2), ((0, 1), (-1, 2), (-2, 1))),
    ((0, 0, 0, 0, -1), ((0, 1),)),
    ((-1, 0, 0, 0, 1), ((1, 1), (-1, 1))),
    ((0, 0, -2, 0, 1), ((-2, 0, 1), (0, 1), (-2, 0, 1))),
    ((24, -50, 35, -10, 1), ((-1, 1), (-2, 1), (-3, 1), (-4, 1))),
    ((-2, 3, 1, -3, 1), ((1, 1), (-1, 1), (-2, 1))),
    ((0, -8, 0, 0, 1), ((0, 1), (-2, 1))),
    ((0, 0, -7, 0, 7), ((1, 1), (0, 1), (-1, 1))),
    ((0, 0, 1, 0, 1), ((0, 1),)),
    ((6, 0, -5, 0, 1), ((-3, 0, 1), (-2, 0, 1), (-2, 0, 1), (-3, 0, 1))),
    ((4, 0, -4, 0, 1), ((-2, 0, 1),) * 2),
    ((1, 0, 2, 0, 1), ()),
    ((4, 0, 0, 0, 1), ()),
    ((1, 0, 1, 0, 1), ()),
    ((1, 2, -1, -2, 1), ((-1, -1, 1),) * 2),
    ((-6, 0, -1, 0, 2), ((-2, 0, 1),) * 2),
    ((1, -4, 2, 4, 1), ((-1, 2, 1),) * 2),
    ((-1, 4, -4, 0, 1), ((-1, 2, 1), (-1, 2, 1), (-1, 1))),
    ((-6, 10, 5, -10, 1), ((1, 1), (6, -10, 1), (-1, 1), (6, -10, 1))),
    ((-2, 0, 1, 0, 1), ((1, 1), (-1, 1))),
    ((3, 2, -6, -2, 3), ((1, 1), (-3, -2, 3), (-1, 1), (-3, -2, 3))),
    ((2, -2, -3, 2, 1), ((-2, 2, 1), (1, 1), (-2, 2, 1), (-1, 1))),
    ((-4, 0, 0, 0, 9), ((-2, 0, 3),) * 2),
    ((-1000, 0, 990, 0, 10), ((1, 1), (-1, 1))),
    ((1, 0, -7, 0, 1), ((1, 3, 1), (1, 3, 1), (1, -3, 1), (1, -3, 1))),
    ((1, 0, -3, 0, 1), ((-1, 1, 1), (-1, -1, 1), (-1, 1, 1), (-1, -1, 1))),
    ((1, 0, -14, 0, 1), ((1, 4, 1), (1, 4, 1), (1, -4, 1), (1, -4, 1))),
    ((1, 0, -10, 0, 1), ((1, 0, -10, 0, 1),) * 4),
    ((-2, 0, 0, 0, 1), ((-2, 0, 0, 0, 1),) * 2),
    ((4, 0, 0, 0, -2), ((-2, 0, 0, 0, 1),) * 2),
    ((-3, 0, 0, 0, 1000), ((-3, 0, 0, 0, 1000),) * 2),
    ((2, 0, -4, 0, 1), ((2, 0, -4, 0, 1),) * 4),
    ((-1, 0, -2, 0, 1), ((-1, 0, -2, 0, 1),) * 2),
    ((1, 0, 0, 0, 1), ()),
    ((2, 0, 2, 0, 1), ()),
    ((1, 8, -16, -8, 16), ((1, 8, -16, -8, 16),) * 4),
    ((1, -1, 1, -1, 1), ()),
    ((-1, 1, 3, 1, -1), ((1, -1, -3, -1, 1),) * 2),
    ((-1, 0, 4, 4, 1), ((-1, 2, 1), (1, 1), (-1, 2, 1))),
    ((-8, 16, 0, -8, 2), ((-2, 0, 1), (2, -4, 1), (-2, 0, 1), (2, -4, 1))),
    ((7, -28, 14, 28, 7), ((-1, 2, 1),) * 2),
    ((-999, 0, 1000, 0, -1), ((-999, 0, 1), (1, 1), (-1, 1), (-999, 0, 1))),
    ((-1, -4, -2, 4, -1), ((-1, -2, 1),) * 2),
    ((41, 6, -11, -1, 1), ()),
    ((-1, -2, 1, 2, 1), ((-1, -2, 1, 2, 1),) * 2),
    ((1, 6, -6, -4, 1), ((1, 6, -6, -4, 1),) * 4),
    ((4, -8, 0, 4, 1), ((-2, 2, 1),) * 2),
    ((-1, -2, 3, -4, 2), ((-1, -2, 3, -4, 2),) * 2),
    ((-2, 0, 0, 1), ((-2, 0, 0, 1),)),
    ((4, 0, 0, -2), ((-2, 0, 0, 1),)),
    ((1, -3, 0, 1), ((1, -3, 0, 1),) * 3),
    ((-1, -2, 1, 1), ((-1, -2, 1, 1),) * 3),
    ((1000, 999, 998, 997), ((1000, 999, 998, 997),)),
    ((-1, -1, 0, 2), ((-1, 1),)),
    ((999, 0, 1000, -1000), ((-999, 0, -1000, 1000),)),
    ((0, -2, 0, 0, 1), ((0, 1), (-2, 0, 0, 1))),
    ((0, 2, 0, 0, -1), ((0, 1), (-2, 0, 0, 1))),
    ((2, -2, 0, -1, 1), ((-1, 1), (-2, 0, 0, 1))),
    ((0, 1, -3, 0, 1), ((1, -3, 0, 1), (0, 1), (1, -3, 0, 1), (1, -3, 0, 1))),
    ((-6, 2, 3, -1), ((-2, 0, 1), (-2, 0, 1), (-3, 1))),
    ((-3, 1, -3, 10, -3), ((-1, 0, -1, 3), (-3, 1))),
    ((-1, -1, 0, 0, 1), ((-1, -1, 0, 0, 1),) * 2),
    ((3, 3, 0, 0, -3), ((-1, -1, 0, 0, 1),) * 2),
    ((1, -1, -4, 0, 1), ((1, -1, -4, 0, 1),) * 4),
    ((-1, 1, 0, 0, 1), ((-1, 1, 0, 0, 1),) * 2),
    ((1000, -999, -998, 997, 996), ()),
    ((1, 1, -5, 1, 1), ((1, 1, -5, 1, 1),) * 4),
    ((2, -4, 1, -1, 1), ((2, -4, 1, -1, 1),) * 2),
    ((-1, -10, 0, 0, 1), ((-1, -10, 0, 0, 1),) * 2),
    ((1, -1, 0, 0, 1), ()),
    ((9, 8, -12, 0, 1), ((9, 8, -12, 0, 1),) * 4),
)

# Those least polynomials whose roots have no formula.
PAPERS = (
    (1, 6, -6, -4, 1), (-1, -2, 3, -4, 2), (-2, 0, 0, 1), (1, -3, 0, 1), (-1, -2, 1, 1), (1000, 999, 998, 997),
    (-999, 0, -1000, 1000), (-1, 0, -1, 3), (-1, -1, 0, 0, 1), (1, -1, -4, 0, 1), (-1, 1, 0, 0, 1),
    (2, -4, 1, -1, 1), (-1, -10, 0, 0, 1), (9, 8, -12, 0, 1),
)

# Polynomials, places and papers that hold.
HOLD = (
    ((-2, 0, 0, 1), 0, (-2, 0, 0, 1)),
    ((4, 0, 0, -2), 0, (-2, 0, 0, 1)),
    ((-1, 0, 0, 2), 0, (-1, 0, 0, 2)),
    ((1, -3, 0, 1), 0, (1, -3, 0, 1)),
    ((1, -3, 0, 1), 1, (1, -3, 0, 1)),
    ((1, -3, 0, 1), 2, (1, -3, 0, 1)),
    ((0, -2, 0, 0, 1), 1, (-2, 0, 0, 1)),
    ((0, 2, 0, 0, -1), 1, (-2, 0, 0, 1)),
    ((0, 1, -3, 0, 1), 0, (1, -3, 0, 1)),
    ((0, 1, -3, 0, 1), 2, (1, -3, 0, 1)),
    ((-3, 1, -3, 10, -3), 0, (-1, 0, -1, 3)),
    ((1000, 999, 998, 997), 0, (1000, 999, 998, 997)),
    ((-1, -1, 0, 0, 1), 0, (-1, -1, 0, 0, 1)),
    ((-1, -1, 0, 0, 1), 1, (-1, -1, 0, 0, 1)),
    ((3, 3, 0, 0, -3), 1, (-1, -1, 0, 0, 1)),
    ((9, 8, -12, 0, 1), 3, (9, 8, -12, 0, 1)),
)

# Polynomials, places and papers that do not hold, for one reason.
HOLD_NOT = (
    # They do not divide.
    ((-2, 0, 0, 1), 0, (-3, 0, 0, 1)),
    ((-2, 0, 0, 1), 0, (2, 0, 0, 1)),
    ((-2, 0, 0, 1), 0, (-1, -1, 0, 0, 1)),
    ((-2, 0, 0, 1), 0, (-10 ** 6, 10 ** 6, -10 ** 6, 999999)),
    ((-1, -1, 0, 0, 1), 1, (-1, 1, 0, 0, 1)),
    ((-2, 0, 1), 1, (-2, 0, 0, 1)),
    ((-1, 1), 0, (-2, 0, 0, 1)),
    ((0, -2, 0, 0, 1), 1, (-2, 0, 0, 2)),
    # They have not the root with that place.
    ((0, -2, 0, 0, 1), 0, (-2, 0, 0, 1)),
    ((2, -2, 0, -1, 1), 0, (-2, 0, 0, 1)),
    ((0, 1, -3, 0, 1), 1, (1, -3, 0, 1)),
    ((-3, 1, -3, 10, -3), 1, (-1, 0, -1, 3)),
    # A common divisor, and the last one below 0.
    ((-2, 0, 0, 1), 0, (-4, 0, 0, 2)),
    ((-2, 0, 0, 1), 0, (-10 ** 6, 0, 0, 5 * 10 ** 5)),
    ((4, 0, 0, -2), 0, (4, 0, 0, -2)),
    ((-4, 0, 0, 2), 0, (-4, 0, 0, 2)),
    ((-2, 0, 0, 1), 0, (2, 0, 0, -1)),
    ((2, 0, 0, -1), 0, (2, 0, 0, -1)),
    ((-1, -1, 0, 0, 1), 0, (1, 1, 0, 0, -1)),
    ((-1, -1, 0, 0, 1), 0, (-3, -3, 0, 0, 3)),
    # Products, with a rational root or without one.
    ((2, -2, 0, -1, 1), 1, (2, -2, 0, -1, 1)),
    ((2, -2, 0, -1, 1), 0, (2, -2, 0, -1, 1)),
    ((0, -2, 0, 0, 1), 1, (0, -2, 0, 0, 1)),
    ((-2, 2, 1, -1), 0, (2, -2, -1, 1)),
    ((2, -2, -1, 1), 1, (2, -2, -1, 1)),
    ((-1, 1, -1, 1), 0, (-1, 1, -1, 1)),
    ((-1, 3, -3, 1), 0, (-1, 3, -3, 1)),
    ((6, 0, -5, 0, 1), 3, (6, 0, -5, 0, 1)),
    ((4, 0, -4, 0, 1), 1, (4, 0, -4, 0, 1)),
    ((-2, -2, -1, 1, 1), 0, (-2, -2, -1, 1, 1)),
    # Degree 1 and 2.
    ((-3, 2), 0, (-3, 2)),
    ((0, -2, 0, 0, 1), 0, (0, 1)),
    ((2, -2, 0, -1, 1), 0, (-1, 1)),
    ((-2, 0, 1), 0, (-2, 0, 1)),
    ((-1, -1, 1), 1, (-1, -1, 1)),
    ((-2, 2, 1, -1), 2, (-2, 0, 1)),
    ((6, 0, -5, 0, 1), 3, (-3, 0, 1)),
    # Degree 4 and a resolvent with a rational root, of which 0 is one.
    ((1, 0, -10, 0, 1), 0, (1, 0, -10, 0, 1)),
    ((-2, 0, 0, 0, 1), 1, (-2, 0, 0, 0, 1)),
    ((2, 0, -4, 0, 1), 2, (2, 0, -4, 0, 1)),
    ((1, 8, -16, -8, 16), 3, (1, 8, -16, -8, 16)),
    ((-1, -2, 1, 2, 1), 1, (-1, -2, 1, 2, 1)),
    ((1, 1, -5, 1, 1), 1, (1, 1, -5, 1, 1)),
)

NO_ROOT = (
    ((5, 1), 1),
    ((-2, 0, 1), 2),
    ((1, 0, 1), 0),
    ((1, 0, 1), 1),
    ((0, 0, 1), 1),
    ((4, -4, 1), 1),
    ((-1, 3, -3, 1), 1),
    ((-2, 0, 0, 1), 1),
    ((1, -3, 0, 1), 3),
    ((6, 0, -5, 0, 1), 4),
    ((4, 0, -4, 0, 1), 2),
    ((1, 0, 2, 0, 1), 0),
    ((1, -1, 0, 0, 1), 0),
    ((-1, -1, 0, 0, 1), 2),
    ((1, 0, -10, 0, 1), 4),
    ((1000, -999, -998, 997, 996), 0),
)


def resolvent_has_rational_root(polynomial):
    """By the words of the document."""
    c0, c1, c2, c3, c4 = [Fraction(n, polynomial[4]) for n in polynomial]
    shift = -c3 / 4
    p = c2 + 3 * c3 * shift + 6 * shift ** 2
    q = c1 + 2 * c2 * shift + 3 * c3 * shift ** 2 + 4 * shift ** 3
    r = c0 + c1 * shift + c2 * shift ** 2 + c3 * shift ** 3 + c4 * shift ** 4
    terms = (-q * q, p * p - 4 * r, 2 * p, Fraction(1))
    scale = 1
    for term in terms:
        scale *= term.denominator
    return rational_roots(tuple([int(term * scale) for term in terms])) != ()


class Interface(unittest.TestCase):
    def test_functions_are_defined_in_the_file(self):
        for function, names in ((drawn_root, ("polynomial", "place")), (paper_holds, ("polynomial", "place", "paper"))):
            self.assertEqual(function.__module__, drawable.__name__)
            self.assertEqual(function.__code__.co_varnames[:function.__code__.co_argcount], names)


class DrawnRoot(unittest.TestCase):
    def root_of(self, polynomial, place, formula):
        """That the value of the formula is the real root with the place; returns its least polynomial."""
        formula_fits(self, formula)
        number = value(formula)
        least = number.polynomial()
        self.assertEqual(divisor(polynomial, least), least)
        scale = 10 ** 30
        floor = (number * Number(scale)).floor()
        self.assertLessEqual(roots_below(polynomial, floor, scale), place)
        self.assertEqual(roots_below(polynomial, floor + 1, scale), place + 1)
        self.assertEqual(root_count(least) - roots_below(least, floor, scale), root_count(least) - number.place())
        return least

    def test_roots(self):
        for polynomial, leasts in ROOTS:
            self.assertEqual(root_count(polynomial), len(leasts))
            for place, least in enumerate(leasts):
                found = drawn_root(polynomial, place)
                self.assertIs(type(found), tuple)
                self.assertEqual(drawn_root(polynomial, place), found)
                if least in PAPERS:
                    self.assertEqual(found, ("paper", least))
                else:
                    self.assertEqual((len(found), found[0]), (2, "formula"))
                    self.assertEqual(self.root_of(polynomial, place, found[1]), least, polynomial)
                    self.assertEqual(value(found[1]).place(), leasts[:place].count(least))

    def test_no_root(self):
        for polynomial, place in NO_ROOT + tuple((one, len(leasts)) for one, leasts in ROOTS):
            for wrong in (place, place + 1, place + 10 ** 9, -1, -2, -place - 1, -10 ** 9):
                with self.assertRaises(NoRoot, msg=(polynomial, wrong)) as caught:
                    drawn_root(polynomial, wrong)
                self.assertIs(type(caught.exception), NoRoot)
                self.assertIsInstance(caught.exception, WorkError)
                self.assertEqual(caught.exception.args, ())

    def test_any_polynomials(self):
        chance = random.Random(1)
        kinds = {}
        for most in (1, 2, 3, 10, 1000):
            for _ in range(60):
                degree = chance.randint(1, 4)
                polynomial = tuple([chance.randint(-most, most) for _ in range(degree)]
                                   + [chance.choice((-1, 1)) * chance.randint(1, most)])
                for place in range(root_count(polynomial)):
                    kind = self.told(polynomial, place)
                    kinds[kind] = kinds.get(kind, 0) + 1
        self.assertEqual(sorted(kinds), [("formula", 1), ("formula", 2), ("formula", 4), ("paper", 3), ("paper", 4)])

    def told(self, polynomial, place):
        """That the answer is right; returns its kind and the degree of the root."""
        kind, answer = drawn_root(polynomial, place)
        if kind == "formula":
            least = self.root_of(polynomial, place, answer)
            self.assertNotEqual(len(least), 4)
        else:
            least = answer
            self.assertEqual(kind, "paper")
            self.assertEqual(divisor(polynomial, least), least)
            self.assertEqual(rational_roots(least), ())
            self.assertIn(len(least), (4, 5))
        if len(least) == 5:
            self.assertEqual(kind == "formula", resolvent_has_rational_root(least), least)
        self.assertEqual(paper_holds(polynomial, place, least), kind == "paper")
        return kind, len(least) - 1

    def test_products(self):
        chance = random.Random(2)
        kinds = {}
        for degrees in ((1, 1), (1, 1, 1), (1, 2), (2, 2), (1, 3), (1, 1, 2), (1, 1, 1, 1)) * 20:
            polynomial = product(*[tuple([chance.randint(-3, 3) for _ in range(degree)]
                                         + [chance.choice((-2, -1, 1, 1, 2))]) for degree in degrees])
            for place in range(root_count(polynomial)):
                kind = self.told(polynomial, place)
                kinds[kind] = kinds.get(kind, 0) + 1
        self.assertEqual(sorted(kinds), [("formula", 1), ("formula", 2), ("paper", 3)])

    def test_roots_of_roots(self):
        chance = random.Random(3)
        many = 0
        while many < 40:
            root = Number(chance.choice((2, 3, 5, 6, 7))).root()
            a, b, c, d, e = [Number(chance.randint(-3, 3), chance.choice((1, 1, 2))) for _ in range(5)]
            square = c + d * root + e * e
            if square.sign() < 0:
                continue
            number = a + b * root + square.root()
            polynomial = number.polynomial()
            if len(polynomial) == 5 and max([abs(n) for n in polynomial]) <= 1000:
                many += 1
                for place in range(root_count(polynomial)):
                    self.assertEqual(self.told(polynomial, place), ("formula", 4))
                self.assertEqual(value(drawn_root(polynomial, number.place())[1]), number)

    def test_roots_close_to_each_other(self):
        # Two roots near 1 / 30, and near -1 / 30.
        for polynomial in ((-1, 60, -900, 0, 1), (-1, -60, -900, 0, 1), (1, -1000, 0, 0, 1), (1, 0, -999, 0, 1)):
            for place in range(root_count(polynomial)):
                self.told(polynomial, place)

    def test_somewhat_beyond_the_limits(self):
        great = 10 ** 12 + 39
        for polynomial in ((-great, 0, 0, 0, 1), (great, 7, -great), (-great, 1), (1, 2, -great, -2, 1),
                           (-1, -great, 0, 0, 1), (-great, 1, 0, great + 1)):
            for place in range(root_count(polynomial)):
                self.told(polynomial, place)


class PaperHolds(unittest.TestCase):
    def test_hold(self):
        for polynomial, place, paper in HOLD:
            self.assertIs(paper_holds(polynomial, place, paper), True, (polynomial, place, paper))
            self.assertEqual(drawn_root(polynomial, place), ("paper", paper))

    def test_hold_not(self):
        for polynomial, place, paper in HOLD_NOT:
            self.assertIs(paper_holds(polynomial, place, paper), False, (polynomial, place, paper))
            self.assertNotEqual(drawn_root(polynomial, place), ("paper", paper))

    def test_papers_of_all_roots(self):
        for polynomial, leasts in ROOTS:
            for place, least in enumerate(leasts):
                for paper in PAPERS:
                    self.assertIs(paper_holds(polynomial, place, paper), paper == least, (polynomial, place, paper))
                self.assertIs(paper_holds(polynomial, place, least), least in PAPERS)
                if len(polynomial) > 2:
                    self.assertIs(paper_holds(polynomial, place, polynomial), polynomial in PAPERS)

    def test_one_integer_is_wrong(self):
        for polynomial, place, paper in HOLD:
            for k in range(len(paper)):
                for change in (-1, 1):
                    other = paper[:k] + (paper[k] + change,) + paper[k + 1:]
                    if other[-1] != 0:
                        self.assertIs(paper_holds(polynomial, place, other), False)


if __name__ == "__main__":
    unittest.main()
