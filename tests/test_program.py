"""The whole program together: what one part gives, the others take."""

import unittest

from compasswork import errors
from compasswork.compiling import drawing_of
from compasswork.drawable import drawn_root, paper_holds
from compasswork.drawings import check, difference, draw, read_drawing, write_drawing
from compasswork.errors import BadStep, BadText, NegativeRoot, NoRoot, NotDrawn, WorkError, ZeroDivisor
from compasswork.figures import lies_on, meets, same
from compasswork.formulas import read_formula, value, write_formula
from compasswork.numbers import Number
from compasswork.polygons import corner
from compasswork.polynomials import root_count
from compasswork.shortening import shorten

TEXTS = ("0", "1", "-7", "10000", "div 22 7", "root 2", "add root 2 root 3", "div add 1 root 5 2",
         "root add 2 root add 2 root 2", "sub root 3 root 2", "mul root root 2 root root 8", "neg root div 1 10",
         "div root 6 neg root 2", "root sub 3 mul 2 root 2", "root root root 3", "sub 0 root 5",
         "mul add 1 root 2 sub 1 root 2")

# What raises each of the errors, and the field that it bears.
RAISED = (
    (lambda: Number(1, 0), ZeroDivisor, None),
    (lambda: Number(1).over(Number(8).root() - Number(2) * Number(2).root()), ZeroDivisor, None),
    (lambda: value(read_formula("div 1 sub 2 2")), ZeroDivisor, None),
    (lambda: drawing_of(read_formula("div 1 sub 2 2")), ZeroDivisor, None),
    (lambda: Number(-1).root(), NegativeRoot, None),
    (lambda: value(read_formula("root sub 1 root 2")), NegativeRoot, None),
    (lambda: drawing_of(read_formula("root sub 1 root 2")), NegativeRoot, None),
    (lambda: drawn_root((1, 0, 1), 0), NoRoot, None),
    (lambda: drawn_root((-2, 0, 1), -1), NoRoot, None),
    (lambda: read_formula("add 1 x"), BadText, ("place", 2)),
    (lambda: read_formula(""), BadText, ("place", 0)),
    (lambda: read_drawing("point 0 0\npoint 1"), BadText, ("place", 1)),
    (lambda: check((("point", 0, 0), ("line", 0, 1))), BadStep, ("index", 1)),
    (lambda: draw((("point", 0, 0), ("point", 0, 0), ("line", 0, 1))), NotDrawn, ("index", 2)),
)


class Formulas(unittest.TestCase):
    def drawn(self, formula):
        """That the formula is compiled, drawn and shortened, each time with its value at the end."""
        number = value(formula)
        self.assertEqual(read_formula(write_formula(formula)), formula)
        drawing = drawing_of(formula)
        short = shorten(drawing)
        for one in (drawing, short):
            again = read_drawing(write_drawing(one))
            self.assertEqual(again, one)
            self.assertIsNone(check(again))
            things = draw(again)
            self.assertEqual(things[-1], (number, Number(0)))
            self.things_are_right(again, things)
            self.assertIsNone(difference(one, again))
        self.assertLessEqual(len(short), len(drawing))
        self.assertEqual(shorten(short), short)
        self.all_things_differ(draw(short))
        return number

    def things_are_right(self, drawing, things):
        for step, thing in zip(drawing, things):
            if step[0] == "meet":
                one, other = things[step[1]], things[step[2]]
                self.assertTrue(lies_on(thing, one) and lies_on(thing, other))
                self.assertEqual(meets(one, other)[step[3]], thing)

    def all_things_differ(self, things):
        points = [thing for thing in things if not isinstance(thing[0], str)]
        figures = [thing for thing in things if isinstance(thing[0], str)]
        for k, point in enumerate(points):
            self.assertNotIn(point, points[:k])
        for k, figure in enumerate(figures):
            self.assertNotIn(True, [same(figure, other) for other in figures[:k]])

    def test_formulas(self):
        for text in TEXTS:
            self.drawn(read_formula(text))

    def test_roots(self):
        for polynomial in ((-2, 0, 1), (3, -2), (-1, -1, 1), (1, 0, -10, 0, 1), (-2, 0, 0, 0, 1), (-2, 2, 1, -1),
                           (0, -2, 0, 0, 1), (1, -3, 0, 1), (-1, -1, 0, 0, 1), (1, 8, -16, -8, 16)):
            numbers = []
            for place in range(root_count(polynomial)):
                kind, told = drawn_root(polynomial, place)
                self.assertEqual(paper_holds(polynomial, place, told if kind == "paper" else polynomial),
                                 kind == "paper")
                if kind == "formula":
                    numbers.append(self.drawn(told))
            for number in numbers:
                total = Number(0)
                for n in polynomial[::-1]:
                    total = total * number + Number(n)
                self.assertEqual(total, Number(0))
            for one, other in zip(numbers, numbers[1:]):
                self.assertTrue(one.below(other))

    def test_corners(self):
        for n in range(3, 51):
            formula = corner(n)
            if formula is not None:
                number = self.drawn(formula)
                self.goes_around(number, n)

    def goes_around(self, cosine, n):
        """That the angle of this cosine, so many times, is the whole turn, and not before."""
        one, other = (Number(1), Number(0)), (cosine, (Number(1) - cosine * cosine).root())
        last = other
        for k in range(1, n):
            self.assertNotEqual(last, one)
            last = (last[0] * other[0] - last[1] * other[1], last[0] * other[1] + last[1] * other[0])
        self.assertEqual(last, one)

    def test_corners_as_roots(self):
        # The least polynomials of these corners have degrees up to 4.
        for n in (3, 4, 5, 6, 8, 10, 12, 15, 16, 20, 24, 30):
            number = value(corner(n))
            kind, formula = drawn_root(number.polynomial(), number.place())
            self.assertEqual(kind, "formula")
            self.assertEqual(value(formula), number)

    def test_equal_numbers_by_other_formulas(self):
        for one, other in (("root add 3 mul 2 root 2", "add 1 root 2"), ("div 1 root 2", "root div 1 2"),
                           ("mul root 2 root 3", "root 6")):
            self.assertEqual(self.drawn(read_formula(one)), self.drawn(read_formula(other)))


class Errors(unittest.TestCase):
    def test_errors(self):
        kinds = (ZeroDivisor, NegativeRoot, NoRoot, BadText, BadStep, NotDrawn)
        for action, error, field in RAISED:
            with self.assertRaises(WorkError) as caught:
                action()
            raised = caught.exception
            self.assertEqual([isinstance(raised, kind) for kind in kinds], [kind is error for kind in kinds])
            self.assertIsInstance(raised, ValueError)
            if field is None:
                self.assertEqual(raised.args, ())
            else:
                self.assertEqual(getattr(raised, field[0]), field[1])

    def test_all_of_them_are_raised_here(self):
        self.assertEqual(len(set([error for _, error, _ in RAISED])), 6)
        self.assertEqual(errors.WorkError.__mro__[1], ValueError)


if __name__ == "__main__":
    unittest.main()
