"""Drawings, polynomials and questions that several tests share."""

import random
from fractions import Fraction

from compasswork.formulas import read_formula, value, write_formula
from compasswork.numbers import Number


def turned_step(step):
    """A step that gives the same thing."""
    if step[0] == "line":
        return "line", step[2], step[1]
    if step[0] == "circle":
        return "circle", step[1], step[3], step[2]
    if step[0] == "meet":
        return "meet", step[2], step[1], step[3]
    return step


def root_of_roots(many):
    """A drawing of 3 with as many roots around it, and the index of its point."""
    drawing = [("point", 0, 0), ("point", 1, 0), ("point", 0, 1), ("line", 0, 1), ("line", 0, 2), ("point", -1, 0),
               ("point", 3, 0)]
    last = 6
    for _ in range(many):
        last = add_root(drawing, last)
    return tuple(drawing), last


def add_root(drawing, last):
    """Draws the point (root of x, 0) for a point (x, 0), and returns its index.

    The y axis meets the circle over the line from (-1, 0) to (x, 0) there, in the height of the root.
    """
    base = len(drawing)
    drawing.extend([("circle", 5, 5, last), ("circle", last, 5, last), ("meet", base, base + 1, 0),
                    ("meet", base, base + 1, 1), ("line", base + 2, base + 3), ("meet", base + 4, 3, 0),
                    ("circle", base + 5, base + 5, 5), ("meet", base + 6, 4, 1), ("circle", 0, 0, base + 7),
                    ("meet", base + 8, 3, 1)])
    return base + 9


def some_drawing(chance, many):
    """A drawing in the field of the root of 3, that can be drawn."""
    drawing = [("point", 0, 0), ("point", 1, 0), ("point", 0, 1), ("point", 1, 1)]
    corners = [0, 1, 2, 3]
    while len(drawing) < many:
        if chance.random() < 0.3:
            corners = corners[-5:] + [len(drawing)]
            drawing.append(("point", len(drawing), chance.randint(-9, 9)))
        i, j = chance.sample(corners, 2)
        add_triangle(drawing, i, j, chance.randint(0, 1))
    return tuple(drawing[:many])


def add_triangle(drawing, i, j, w):
    """Draws an equilateral triangle, the middle of its side, and a point of this side that is as high from there."""
    base = len(drawing)
    drawing.extend([("circle", i, i, j), ("circle", j, j, i), ("meet", base, base + 1, 0),
                    ("meet", base + 1, base, 1), ("line", i, j), ("line", base + 2, base + 3),
                    ("meet", base + 4, base + 5, 0), ("circle", base + 6, base + 2, base + 6),
                    ("meet", base + 7, base + 4, w)])


def product(*polynomials):
    found = (1,)
    for one in polynomials:
        terms = [0] * (len(found) + len(one) - 1)
        for i, m in enumerate(found):
            for j, n in enumerate(one):
                terms[i + j] += m * n
        found = tuple(terms)
    return found


def with_roots(*roots):
    return product(*[(-Fraction(x).numerator, Fraction(x).denominator) for x in roots])


def formula_fits(test, formula):
    """That a formula is one, and is within the limits for what the program returns."""
    text = write_formula(formula)
    test.assertEqual(read_formula(text), formula)
    test.assertLessEqual(len(text), 2000)
    test.assertLessEqual(len(text.split(" ")), 400)
    test.assertLessEqual(depth(formula), 60)
    # A sum with weights like these lies in no smaller field than all of its numbers do.
    chance = random.Random(1)
    total = Number(0)
    for part in parts_of(formula):
        total = total + value(part) * Number(chance.randint(1, 10 ** 9))
    test.assertLessEqual(total.degree(), 16)


def depth(formula):
    """How many words stand around one another."""
    if formula[0] == "number":
        return 1
    return 1 + max([depth(part) for part in formula[1:]])


def parts_of(formula):
    """The formula and all formulas in it."""
    found = [formula]
    if formula[0] != "number":
        for part in formula[1:]:
            found = found + parts_of(part)
    return found
