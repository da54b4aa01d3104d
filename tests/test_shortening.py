import random
import unittest

from helpers import add_triangle, root_of_roots, some_drawing, turned_step

from compasswork import shortening
from compasswork.drawings import check, draw, read_drawing, write_drawing
from compasswork.figures import same
from compasswork.shortening import shorten

START = (("point", 0, 0), ("point", 1, 0))
# Two circles and a line through the points 0 and 1, behind these.
FIGURES = START + (("circle", 0, 0, 1), ("circle", 1, 0, 1), ("line", 0, 1))
# The upper and the lower meet of the circles, the line through both, and where this one meets the line.
MIDDLE = FIGURES + (("meet", 2, 3, 1), ("meet", 2, 3, 0), ("line", 5, 6), ("meet", 4, 7, 0))
# Points of the line y = x, and one beside it.
SLOPE = (("point", 0, 0), ("point", 1, 1), ("point", 2, 2), ("point", -3, -3), ("point", 5, 0))

# Drawings and their short forms.
SHORT = (
    # One step, and drawings whose last step needs no other one.
    ((("point", 5, -7),), (("point", 5, -7),)),
    ((("point", 10 ** 30 - 1, 1 - 10 ** 30),), (("point", 10 ** 30 - 1, 1 - 10 ** 30),)),
    (START, (("point", 1, 0),)),
    (FIGURES + (("point", 3, 4),), (("point", 3, 4),)),
    # Nothing to leave out.
    (START + (("line", 0, 1),), START + (("line", 0, 1),)),
    (START + (("circle", 1, 0, 1),), START + (("circle", 1, 0, 1),)),
    (MIDDLE, MIDDLE),
    # Steps that the last one does not need, before and between those that it needs.
    ((("point", 9, 9),) + START + (("line", 1, 2),), START + (("line", 0, 1),)),
    (START[:1] + (("point", 9, 9),) + START[1:] + (("line", 2, 0),), START + (("line", 1, 0),)),
    (FIGURES, START + (("line", 0, 1),)),
    (FIGURES + (("meet", 3, 2, 1),), FIGURES[:4] + (("meet", 3, 2, 1),)),
    (MIDDLE + (("meet", 4, 2, 0),), FIGURES[:3] + (("line", 0, 1), ("meet", 3, 2, 0))),
    (SLOPE + (("circle", 4, 3, 2),), (("point", 2, 2), ("point", -3, -3), ("point", 5, 0), ("circle", 2, 1, 0))),
    (SLOPE + (("circle", 2, 2, 4),), (("point", 2, 2), ("point", 5, 0), ("circle", 0, 0, 1))),
    # The last step is itself left out.
    (START + START[:1], START[:1]),
    (START + START[1:], START[1:]),
    ((("point", 5, 5), ("point", 4, 4), ("point", 5, 5), ("point", 5, 5)), (("point", 5, 5),)),
    (FIGURES + (("line", 1, 0),), START + (("line", 0, 1),)),
    (FIGURES + (("circle", 0, 1, 0),), START + (("circle", 0, 0, 1),)),
    (FIGURES + (("meet", 2, 4, 1),), START[1:]),
    (FIGURES + (("meet", 3, 4, 0),), START[:1]),
    (MIDDLE + (("meet", 3, 2, 1),), FIGURES[:4] + (("meet", 2, 3, 1),)),
    (MIDDLE + (("line", 6, 8),), MIDDLE[:4] + (("meet", 2, 3, 1), ("meet", 2, 3, 0), ("line", 4, 5))),
    # Points again: by a point step, by a meet, by both.
    (START + START[:1] + (("line", 2, 1),), START + (("line", 0, 1),)),
    (START + START + (("line", 3, 2), ("circle", 2, 3, 0), ("meet", 4, 5, 0)),
     START + (("line", 1, 0), ("circle", 0, 1, 0), ("meet", 2, 3, 0))),
    (FIGURES + (("meet", 4, 3, 0), ("circle", 5, 1, 5)), START + (("circle", 0, 0, 1),)),
    (FIGURES + (("meet", 4, 3, 1), ("point", 2, 0), ("circle", 6, 1, 6)),
     START + (("circle", 1, 0, 1), ("line", 0, 1), ("meet", 3, 2, 1), ("circle", 4, 1, 4))),
    (FIGURES + (("point", 2, 0), ("meet", 4, 3, 1), ("circle", 6, 1, 6)),
     (("point", 1, 0), ("point", 2, 0), ("circle", 1, 0, 1))),
    (FIGURES + (("point", -1, 0), ("meet", 4, 2, 0), ("circle", 6, 1, 6)),
     (("point", 1, 0), ("point", -1, 0), ("circle", 1, 0, 1))),
    (FIGURES + (("point", -1, 0), ("meet", 4, 2, 0), ("line", 6, 1)), START + (("line", 0, 1),)),
    # Lines through other points of them; those that name points keep the first order.
    (SLOPE + (("line", 0, 1), ("line", 3, 2), ("line", 0, 4), ("meet", 6, 7, 0), ("circle", 8, 8, 4)),
     (("point", 0, 0), ("point", 5, 0), ("circle", 0, 0, 1))),
    (SLOPE + (("line", 3, 2), ("line", 0, 1), ("point", 4, 5), ("line", 4, 7), ("meet", 8, 6, 0)),
     (("point", 2, 2), ("point", -3, -3), ("point", 5, 0), ("line", 1, 0), ("point", 4, 5), ("line", 2, 4),
      ("meet", 5, 3, 0))),
    (SLOPE + (("line", 1, 0), ("line", 0, 1), ("line", 1, 2), ("line", 2, 3)),
     SLOPE[:2] + (("line", 1, 0),)),
    # Lines that are no more than parallel, upright ones too, are not the same.
    (START + (("point", 0, 1), ("point", 1, 1), ("line", 0, 1), ("line", 2, 3)),
     (("point", 0, 1), ("point", 1, 1), ("line", 0, 1))),
    (START + (("point", 0, 1), ("point", 1, 1), ("line", 0, 2), ("line", 1, 3)),
     (("point", 1, 0), ("point", 1, 1), ("line", 0, 1))),
    (START + (("point", 0, 1), ("point", 1, 1), ("line", 0, 2), ("line", 3, 1), ("point", 0, -7), ("line", 6, 2)),
     (("point", 0, 0), ("point", 0, 1), ("line", 0, 1))),
    # Circles with a radius that other points tell; those with another centre or radius are not the same.
    (SLOPE + (("point", 5, 1), ("point", 6, 1), ("point", 6, 2), ("circle", 4, 0, 1), ("circle", 4, 5, 7),
              ("circle", 4, 2, 1), ("circle", 4, 0, 2), ("line", 5, 6), ("meet", 10, 12, 0)),
     (("point", 0, 0), ("point", 1, 1), ("point", 5, 0), ("point", 5, 1), ("point", 6, 1), ("circle", 2, 0, 1),
      ("line", 3, 4), ("meet", 5, 6, 0))),
    (SLOPE + (("point", 5, 1), ("point", 6, 1), ("circle", 4, 0, 1), ("line", 5, 6), ("meet", 7, 8, 1)),
     (("point", 6, 1),)),
    (FIGURES + (("circle", 0, 1, 0), ("circle", 1, 1, 0), ("meet", 6, 5, 0)), FIGURES[:4] + (("meet", 3, 2, 0),)),
    # Meets of other figures in the same point, and of the same figures in another order.
    (FIGURES + (("meet", 2, 3, 1), ("meet", 3, 2, 1), ("line", 6, 0)),
     FIGURES[:4] + (("meet", 2, 3, 1), ("line", 4, 0))),
    (MIDDLE + (("line", 0, 5), ("meet", 9, 3, 1), ("line", 10, 6)),
     FIGURES[:4] + (("meet", 2, 3, 1), ("meet", 2, 3, 0), ("line", 4, 5))),
    (MIDDLE + (("meet", 7, 4, 0), ("line", 9, 0), ("circle", 9, 9, 5), ("meet", 11, 10, 0)),
     MIDDLE + (("circle", 8, 8, 5), ("meet", 9, 4, 0))),
    # Steps that are left out name others that are left out.
    (START + START + (("line", 2, 3), ("line", 3, 2), ("circle", 2, 2, 3), ("circle", 0, 3, 0), ("meet", 5, 7, 0),
                      ("meet", 4, 6, 0), ("line", 9, 3), ("circle", 1, 9, 2)),
     START + (("line", 0, 1), ("circle", 0, 0, 1), ("meet", 2, 3, 0), ("circle", 1, 4, 0)))
)


def by_comparing(drawing):
    """The short form by the words of the document: all pairs of things are compared."""
    things = draw(drawing)
    first = []
    for index, thing in enumerate(things):
        first.append([k for k in range(index + 1) if k == index or same_thing(thing, things[k])][0])
    steps = [renamed(step, first) for step in drawing]
    needed = {first[-1]}
    for index in reversed(range(len(steps))):
        if index in needed:
            needed |= set(named(steps[index]))
    order = sorted(needed)
    return tuple([renamed(steps[index], {k: order.index(k) for k in order}) for index in order])


def same_thing(one, other):
    if isinstance(one[0], str) != isinstance(other[0], str):
        return False
    return same(one, other) if isinstance(one[0], str) else one == other


def named(step):
    return {"point": (), "line": step[1:], "circle": step[1:], "meet": step[1:3]}[step[0]]


def renamed(step, places):
    many = len(named(step))
    return (step[0], *[places[k] for k in step[1:1 + many]], *step[1 + many:])


class Interface(unittest.TestCase):
    def test_function_is_defined_in_the_file(self):
        self.assertEqual(shorten.__module__, shortening.__name__)
        self.assertEqual(shorten.__code__.co_varnames[:shorten.__code__.co_argcount], ("drawing",))


class ShortForms(unittest.TestCase):
    def test_short_forms(self):
        for drawing, short in SHORT:
            self.assertIsNone(check(drawing))
            self.assertEqual(shorten(drawing), short, drawing)
            self.assertEqual(by_comparing(drawing), short, drawing)

    def test_kinds_of_values(self):
        for drawing, _ in SHORT:
            found = shorten(drawing)
            self.assertIs(type(found), tuple)
            for step in found:
                self.assertIs(type(step), tuple)
                self.assertEqual([type(part) for part in step], [str] + [int] * (len(step) - 1))

    def test_short_forms_are_drawings_with_the_same_last_thing(self):
        for drawing, _ in SHORT:
            found = shorten(drawing)
            self.assertIsNone(check(found))
            self.assertTrue(same_thing(draw(found)[-1], draw(drawing)[-1]))
            self.assertEqual(shorten(found), found)

    def test_nothing_that_is_passed_changes(self):
        for drawing, _ in SHORT:
            text = write_drawing(drawing)
            shorten(drawing)
            self.assertEqual(drawing, read_drawing(text))

    def test_same_things_by_irrational_numbers(self):
        # The points 0 and 1 again, by way of the root of 3.
        again = MIDDLE + (("circle", 8, 8, 0), ("meet", 4, 9, 0), ("meet", 4, 9, 1), ("line", 10, 11))
        self.assertEqual(shorten(again), START + (("line", 0, 1),))
        self.assertEqual(shorten(again + (("line", 11, 5),)), FIGURES[:4] + (("meet", 2, 3, 1), ("line", 1, 4)))
        self.assertEqual(shorten(again + (("circle", 6, 10, 11),)),
                         FIGURES[:4] + (("meet", 2, 3, 0), ("circle", 4, 0, 1)))
        self.assertEqual(shorten(again + (("circle", 6, 10, 11), ("circle", 6, 5, 0), ("meet", 2, 14, 1))),
                         START[1:])

    def test_same_things_before_and_after_the_field_grows(self):
        drawing, last = root_of_roots(3)
        again = drawing + (("meet", 4, 3, 0), ("line", last, last + 1), ("line", 1, 5), ("circle", last + 1, last, 5),
                           ("circle", 0, 5, last), ("meet", last + 2, last + 4, 1))
        self.assertEqual(shorten(again), by_comparing(again))
        self.assertEqual(shorten(drawing + (("line", 0, last),)), (("point", 0, 0), ("point", 1, 0), ("line", 0, 1)))
        self.assertEqual(shorten(drawing + (("line", last, 0), ("point", 0, 0))), (("point", 0, 0),))

    def test_things_that_are_almost_the_same(self):
        great = 10 ** 30 - 1
        points = (("point", 0, 0), ("point", great, great - 1), ("point", great - 1, great - 2))
        lines = points + (("line", 0, 1), ("line", 0, 2))
        self.assertEqual(shorten(lines), (("point", 0, 0), points[2], ("line", 0, 1)))
        circles = points + (("circle", 0, 1, 0), ("circle", 0, 2, 0))
        self.assertEqual(shorten(circles), (("point", 0, 0), points[2], ("circle", 0, 1, 0)))

    def test_by_comparing_all_things(self):
        for seed in range(6):
            drawing = some_drawing(random.Random(seed), 40)
            turned = [turned_step(step) for step in drawing]
            moved = [renamed(step, range(40, 80)) for step in turned]
            for whole in (drawing, drawing + tuple(moved), tuple(moved_by_hand(drawing, turned, seed))):
                self.assertIsNone(check(whole))
                for many in (len(whole), len(whole) - 1, len(whole) - 3, len(whole) // 2):
                    self.assertEqual(shorten(whole[:many]), by_comparing(whole[:many]))

    def test_a_thousand_steps(self):
        drawing = some_drawing(random.Random(3), 500)
        moved = [renamed(turned_step(step), range(500, 1000)) for step in drawing]
        self.assertEqual(shorten(drawing + tuple(moved)), shorten(drawing))
        drawing = (("point", 3, 4),) * 500 + (("point", 5, 4),) * 499 + (("line", 450, 950),)
        self.assertEqual(shorten(drawing), (("point", 3, 4), ("point", 5, 4), ("line", 0, 1)))

    def test_a_walk_of_a_thousand_steps(self):
        # Along the x axis; the last step needs all others.
        drawing = list(START) + [("line", 0, 1)]
        while len(drawing) < 999:
            last = len(drawing) - 1 if len(drawing) > 3 else 1
            drawing = drawing + [("circle", last, 0, 1), ("meet", 2, len(drawing), 1)]
        drawing = tuple(drawing)
        self.assertEqual(len(drawing), 999)
        self.assertEqual(shorten(drawing), drawing)
        self.assertEqual(shorten(drawing + (("meet", 2, 3, 0),)), drawing[:1])

    def test_a_thousand_steps_in_a_field_of_degree_16(self):
        drawing, last = root_of_roots(4)
        drawing = list(drawing)
        corners = [0, last]
        while len(drawing) < 500:
            add_triangle(drawing, corners[-2], corners[-1], 1)
            corners.append(len(drawing) - (1 if len(corners) % 3 == 0 else 6))
        drawing = tuple(drawing[:500])
        moved = tuple([renamed(turned_step(step), range(500, 1000)) for step in drawing])
        self.assertEqual(shorten(drawing + moved), shorten(drawing))


def moved_by_hand(drawing, turned, seed):
    """The drawing, and again those of its steps that no point step gives, with names from both."""
    chance = random.Random(seed)
    steps = list(drawing)
    places = [[k] for k in range(len(drawing))]
    for index, step in enumerate(turned):
        if step[0] != "point":
            places[index].append(len(steps))
            steps.append(renamed(step, [chance.choice(found) for found in places]))
    return steps


if __name__ == "__main__":
    unittest.main()
