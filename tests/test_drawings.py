import random
import unittest

from helpers import add_triangle, root_of_roots, some_drawing, turned_step

from compasswork import drawings
from compasswork.drawings import check, difference, draw, read_drawing, write_drawing
from compasswork.errors import BadStep, BadText, NotDrawn
from compasswork.figures import lies_on, meets, same
from compasswork.numbers import Number

THIRTY = "9" * 30
FAR = 10 ** 400

START = (("point", 0, 0), ("point", 1, 0))
# Two circles and a line through the points 0 and 1, behind these.
FIGURES = START + (("circle", 0, 0, 1), ("circle", 1, 0, 1), ("line", 0, 1))

# Drawings and their texts.
TEXTS = (
    ((), ""),
    ((("point", 0, 0),), "point 0 0"),
    (START + (("line", 0, 1),), "point 0 0\npoint 1 0\nline 0 1"),
    (FIGURES + (("meet", 2, 3, 1),),
     "point 0 0\npoint 1 0\ncircle 0 0 1\ncircle 1 0 1\nline 0 1\nmeet 2 3 1"),
    ((("point", -10, 10 ** 30 - 1), ("point", 1 - 10 ** 30, 0)), f"point -10 {THIRTY}\npoint -{THIRTY} 0"),
    # Forms alone are read and written, well formed or not.
    ((("meet", -1, 999, -7),), "meet -1 999 -7"),
    ((("line", 5, 5), ("circle", 0, -3, 10 ** 29)), "line 5 5\ncircle 0 -3 1" + "0" * 29),
)

# Texts that cannot be read, and their faults.
FAULTS = (
    ("\n", 0),
    (" ", 0),
    ("\npoint 0 0", 0),
    ("point 0 0\n", 1),
    ("point 0 0\n\npoint 1 0", 1),
    ("point 0 0\npoint 1 0\nline 0 1\n", 3),
    ("point", 0),
    ("point 0", 0),
    ("point 0 0 0", 0),
    ("point 0 0 ", 0),
    (" point 0 0", 0),
    ("point  0 0", 0),
    ("point 0  0", 0),
    ("point\t0\t0", 0),
    ("point 0 0\r\npoint 1 0", 0),
    ("point 0 0 point 1 0", 0),
    ("line 0", 0),
    ("line 0 1 2", 0),
    ("circle 0 1", 0),
    ("circle 0 1 2 3", 0),
    ("meet 0 1", 0),
    ("meet 0 1 0 0", 0),
    ("Point 0 0", 0),
    ("points 0 0", 0),
    ("arc 0 0 1", 0),
    ("0 0 0", 0),
    ("point 0 -0", 0),
    ("point 00 0", 0),
    ("point 01 0", 0),
    ("point -01 0", 0),
    ("point +1 0", 0),
    ("point 1.0 0", 0),
    ("point 1_0 0", 0),
    ("point x 0", 0),
    ("point - 0", 0),
    ("point \u0661 0", 0),
    ("point 0 1" + THIRTY, 0),
    ("point -1" + THIRTY + " 0", 0),
    ("line 0 1" + THIRTY, 0),
    ("meet 0 1 00", 0),
    ("point 0 0\npoint 1 0\nline 0 1 \nline 0\n", 2),
    ("line 0 0\nmeet 0 0 2\npoint a b\npoint", 2),
)

# Drawings, and the index of the first step that is not well formed, if there is one.
STEPS = (
    ((), None),
    ((("point", 0, 0),), None),
    ((("point", 10 ** 30 - 1, 1 - 10 ** 30),), None),
    (FIGURES, None),
    (FIGURES + (("meet", 2, 3, 0), ("meet", 4, 2, 1), ("line", 5, 6), ("circle", 6, 5, 0), ("meet", 8, 7, 1)), None),
    # Well formed, although they cannot be drawn.
    (START + (("line", 0, 0), ("circle", 0, 1, 1), ("meet", 2, 2, 1), ("line", 4, 4)), None),
    ((("line", 0, 1),), 0),
    ((("circle", 0, 0, 0),), 0),
    ((("meet", 0, 0, 0),), 0),
    (START + (("line", 0, 2),), 2),
    (START + (("line", 2, 0),), 2),
    (START + (("line", 0, 3), ("line", 0, 1)), 2),
    (START + (("line", -1, 0),), 2),
    (START + (("line", 0, -2),), 2),
    (START + (("line", 0, FAR),), 2),
    (START + (("line", -FAR, 0),), 2),
    (START + (("circle", 2, 0, 1),), 2),
    (START + (("circle", 0, 2, 1),), 2),
    (START + (("circle", 0, 1, 2),), 2),
    (START + (("circle", -1, 0, 1),), 2),
    (START + (("circle", 0, -1, 1),), 2),
    (START + (("circle", 0, 1, -1),), 2),
    (START + (("circle", 0, 1, FAR),), 2),
    (FIGURES + (("line", 0, 4),), 5),
    (FIGURES + (("line", 2, 0),), 5),
    (FIGURES + (("circle", 4, 0, 1),), 5),
    (FIGURES + (("circle", 0, 2, 1),), 5),
    (FIGURES + (("circle", 0, 1, 3),), 5),
    (FIGURES + (("meet", 0, 3, 0),), 5),
    (FIGURES + (("meet", 3, 1, 0),), 5),
    (FIGURES + (("meet", 2, 5, 0),), 5),
    (FIGURES + (("meet", 5, 2, 0),), 5),
    (FIGURES + (("meet", 2, 6, 0),), 5),
    (FIGURES + (("meet", -1, 2, 0),), 5),
    (FIGURES + (("meet", 2, -1, 0),), 5),
    (FIGURES + (("meet", 2, FAR, 0),), 5),
    (FIGURES + (("meet", 2, 3, 2),), 5),
    (FIGURES + (("meet", 2, 3, -1),), 5),
    (FIGURES + (("meet", 2, 3, FAR),), 5),
    (FIGURES + (("meet", 2, 3, 0), ("meet", 2, 5, 0)), 6),
    (FIGURES + (("meet", 2, 3, 0), ("line", 5, 6), ("meet", 2, 3, 7), ("line", 9, 9)), 6),
    (FIGURES + (("meet", 2, 3, 2), ("line", 0, 77)), 5),
    # Counted from the end, the indexes below 0 would fit.
    (START + (("line", -1, 0), ("point", 5, 5)), 2),
    (START + (("circle", 0, -1, 1), ("point", 5, 5)), 2),
    (FIGURES + (("meet", 2, -1, 0), ("line", 0, 1)), 5),
    (FIGURES + (("meet", -6, 2, 0),), 5),
    (FIGURES + (("meet", 2, 3, -2),), 5),
)

# The points 0 and 1 drawn again, as steps 10 and 11, by way of irrational numbers.
AGAIN = FIGURES + (("meet", 2, 3, 0), ("meet", 2, 3, 1), ("line", 5, 6), ("meet", 7, 4, 0), ("circle", 8, 8, 0),
                   ("meet", 9, 4, 0), ("meet", 9, 4, 1))

# Well formed drawings, and the index of the first step that cannot be drawn.
NOT_DRAWN = (
    (START + (("line", 0, 0),), 2),
    (START + (("point", 0, 0), ("line", 0, 2)), 3),
    (START + (("circle", 0, 1, 1),), 2),
    (START + (("point", 1, 0), ("circle", 0, 2, 1)), 3),
    (FIGURES + (("meet", 2, 2, 0),), 5),
    (FIGURES + (("meet", 4, 4, 0),), 5),
    (FIGURES + (("line", 1, 0), ("meet", 4, 5, 0)), 6),
    (FIGURES + (("circle", 0, 1, 0), ("meet", 2, 5, 1)), 6),
    (FIGURES + (("circle", 0, 0, 1), ("meet", 5, 2, 0)), 6),
    # Touching circles have no second meet, circles apart and parallel lines none.
    (START + (("point", 2, 0), ("circle", 0, 0, 1), ("circle", 2, 0, 1), ("meet", 3, 4, 0), ("meet", 3, 4, 1)), 6),
    (START + (("point", 3, 0), ("circle", 0, 0, 1), ("circle", 2, 0, 1), ("meet", 3, 4, 0)), 5),
    (START + (("point", 0, 1), ("point", 1, 1), ("line", 0, 1), ("line", 2, 3), ("meet", 4, 5, 0)), 6),
    (START + (("point", 1, 1), ("line", 0, 1), ("line", 0, 2), ("meet", 3, 4, 0), ("meet", 3, 4, 1)), 6),
    (START + (("point", 0, 2), ("point", 1, 2), ("circle", 0, 0, 1), ("line", 2, 3), ("meet", 4, 5, 0)), 6),
    # The meet of step 5 is the point of step 0.
    (FIGURES + (("meet", 3, 4, 0), ("line", 0, 5)), 6),
    (FIGURES + (("meet", 3, 4, 0), ("circle", 1, 5, 0)), 6),
    (FIGURES + (("meet", 2, 2, 1), ("line", 0, 0), ("meet", 4, 4, 0)), 5),
    (AGAIN + (("line", 0, 10),), 12),
    (AGAIN + (("circle", 5, 11, 1),), 12),
    (AGAIN + (("circle", 10, 11, 0), ("meet", 12, 2, 0)), 13),
    (AGAIN + (("line", 10, 11), ("meet", 12, 4, 0)), 13),
)


def point(x, y):
    return Number(*x) if isinstance(x, tuple) else Number(x), Number(*y) if isinstance(y, tuple) else Number(y)


def index_of(test, error, function, *rest):
    with test.assertRaises(error, msg=rest) as caught:
        function(*rest)
    return caught.exception.index


class Interface(unittest.TestCase):
    def test_functions_are_defined_in_the_file(self):
        for name in ("check", "draw", "read_drawing", "write_drawing", "difference"):
            self.assertEqual(getattr(drawings, name).__module__, "compasswork.drawings")


class Texts(unittest.TestCase):
    def test_write(self):
        for drawing, text in TEXTS:
            self.assertEqual(write_drawing(drawing), text)

    def test_read(self):
        for drawing, text in TEXTS:
            self.assertEqual(read_drawing(text), drawing)

    def test_faults(self):
        for text, place in FAULTS:
            with self.assertRaises(BadText, msg=text) as caught:
                read_drawing(text)
            self.assertEqual(caught.exception.place, place, text)

    def test_each_other(self):
        chance = random.Random(3)
        for _ in range(50):
            drawing = tuple([some_step(chance) for _ in range(chance.randint(1, 40))])
            self.assertEqual(read_drawing(write_drawing(drawing)), drawing)

    def test_longest_texts(self):
        text = "\n".join(["point 0 1"] * 1000)
        self.assertEqual(read_drawing(text), (("point", 0, 1),) * 1000)
        self.assertEqual(write_drawing((("point", 0, 1),) * 1000), text)
        long = "\n".join([f"circle {THIRTY} -{THIRTY} 123456789"] * 250)
        self.assertEqual(write_drawing(read_drawing(long)), long)
        for fault, place in ((text + "\n", 1000), (text[:-1], 999), (text[:-1] + "x", 999), (text + " ", 999)):
            with self.assertRaises(BadText) as caught:
                read_drawing(fault)
            self.assertEqual(caught.exception.place, place)
        for fault in ("x" * 20000, " " * 20000, "\n" * 1000, "point 0 " + "1" * 19000):
            with self.assertRaises(BadText) as caught:
                read_drawing(fault)
            self.assertEqual(caught.exception.place, 0)


class Check(unittest.TestCase):
    def test_steps(self):
        for drawing, index in STEPS:
            if index is None:
                self.assertIsNone(check(drawing))
            else:
                self.assertEqual(index_of(self, BadStep, check, drawing), index, drawing)

    def test_a_thousand_steps(self):
        drawing = START + (("line", 0, 1), ("circle", 0, 0, 1)) * 499
        self.assertIsNone(check(drawing))
        self.assertIsNone(check(drawing[:-1] + (("meet", 997, 998, 1),)))
        for step in (("meet", 998, 999, 0), ("line", 0, 999), ("line", 0, 998), ("meet", 997, 998, 2)):
            self.assertEqual(index_of(self, BadStep, check, drawing[:-1] + (step,)), 999)


class Draw(unittest.TestCase):
    def test_nothing(self):
        self.assertEqual(draw(()), ())

    def test_things(self):
        high = Number(3, 4).root()
        things = draw(FIGURES + (("meet", 2, 3, 1), ("meet", 2, 3, 0), ("line", 5, 6), ("meet", 7, 4, 0),
                                 ("circle", 8, 5, 0), ("meet", 9, 4, 0), ("meet", 4, 9, 1)))
        zero, one = point(0, 0), point(1, 0)
        upper, lower, middle = (Number(1, 2), high), (Number(1, 2), -high), point((1, 2), 0)
        self.assertEqual(things, (
            zero, one, ("circle", zero, zero, one), ("circle", one, zero, one), ("line", zero, one), upper, lower,
            ("line", upper, lower), middle, ("circle", middle, upper, zero), point((-1, 2), 0), point((3, 2), 0)))

    def test_kinds_of_values(self):
        things = draw(FIGURES + (("meet", 2, 3, 1),))
        self.assertIs(type(things), tuple)
        for thing in things:
            self.assertIs(type(thing), tuple)
            pairs = thing[1:] if isinstance(thing[0], str) else (thing,)
            for pair in pairs:
                self.assertIs(type(pair), tuple)
                self.assertEqual([type(part) for part in pair], [Number, Number])

    def test_points_in_the_order_of_the_step(self):
        things = draw(START + (("point", 0, 5), ("line", 1, 0), ("line", 0, 1), ("circle", 2, 1, 0),
                               ("circle", 2, 0, 1)))
        zero, one, far = point(0, 0), point(1, 0), point(0, 5)
        self.assertEqual(things[3:], (("line", one, zero), ("line", zero, one), ("circle", far, one, zero),
                                      ("circle", far, zero, one)))

    def test_great_points(self):
        great = 10 ** 30 - 1
        self.assertEqual(draw((("point", great, -great),)), (point(great, -great),))

    def test_not_drawn(self):
        for drawing, index in NOT_DRAWN:
            self.assertIsNone(check(drawing))
            self.assertEqual(index_of(self, NotDrawn, draw, drawing), index, drawing)
            draw(drawing[:index])

    def test_not_drawn_by_irrational_numbers(self):
        # The line through the meets of the circles 2 and 3 touches the circle of step 8.
        drawing = FIGURES + (("meet", 2, 3, 0), ("meet", 2, 3, 1), ("line", 5, 6), ("meet", 7, 4, 0))
        touching = drawing + (("circle", 0, 0, 8), ("meet", 9, 7, 0))
        self.assertEqual(draw(touching)[10], point((1, 2), 0))
        self.assertEqual(index_of(self, NotDrawn, draw, touching + (("meet", 9, 7, 1),)), 11)
        self.assertEqual(index_of(self, NotDrawn, draw, touching + (("line", 8, 10),)), 11)

    def test_pentagon(self):
        drawing = (("point", 0, 0), ("point", 4, 0), ("point", -1, 0), ("point", 0, 2), ("line", 0, 1),
                   ("circle", 2, 2, 3), ("meet", 4, 5, 1))
        # The cosine of a fifth of the circle, four times.
        self.assertEqual(draw(drawing)[6], (Number(5).root() - Number(1), Number(0)))

    def test_fourth_roots_and_so_on(self):
        drawing, last = root_of_roots(4)
        things = draw(drawing)
        x, y = things[last]
        self.assertEqual(y.sign(), 0)
        self.assertEqual(x.polynomial(), (-3,) + (0,) * 15 + (1,))
        self.assertEqual(x.place(), 1)

    def test_as_meets_says(self):
        for seed in range(4):
            drawing = some_drawing(random.Random(seed), 60)
            things = draw(drawing)
            self.assertEqual(len(things), 60)
            for step, thing in zip(drawing, things):
                if step[0] == "meet":
                    one, other = things[step[1]], things[step[2]]
                    self.assertEqual(meets(one, other)[step[3]], thing)
                    self.assertTrue(lies_on(thing, one) and lies_on(thing, other))

    def test_a_thousand_steps(self):
        drawing = some_drawing(random.Random(2), 1000)
        self.assertIsNone(check(drawing))
        self.assertEqual(read_drawing(write_drawing(drawing)), drawing)
        self.assertEqual(len(draw(drawing)), 1000)
        self.assertIsNone(difference(drawing, drawing))
        self.assertEqual(index_of(self, NotDrawn, draw, drawing[:-1] + (("line", 0, 0),)), 999)

    def test_a_thousand_steps_in_a_field_of_degree_16(self):
        drawing, last = root_of_roots(4)
        drawing = list(drawing)
        corners = [0, last]
        while len(drawing) < 1000:
            add_triangle(drawing, corners[-2], corners[-1], 1)
            corners.append(len(drawing) - (1 if len(corners) % 3 == 0 else 6))
        drawing = tuple(drawing[:1000])
        things = draw(drawing)
        self.assertIsNone(difference(drawing, drawing))
        for index in range(980, 1000):
            if drawing[index][0] == "meet":
                _, i, j, w = drawing[index]
                self.assertEqual(meets(things[i], things[j])[w], things[index])

    def test_a_walk_of_a_thousand_steps(self):
        # Along the x axis, by half a unit with each line and meet.
        drawing = list(START) + [("line", 0, 1)]
        while len(drawing) < 1000:
            last = len(drawing) - 1 if len(drawing) > 3 else 1
            drawing = drawing + [("circle", last, 0, 1), ("meet", 2, len(drawing), 1)]
        things = draw(tuple(drawing[:1000]))
        self.assertEqual(things[998], point(499, 0))


class Difference(unittest.TestCase):
    def differ(self, index, one, other):
        for found in (difference(one, other), difference(other, one)):
            self.assertEqual(found, index, (one, other))
            self.assertIs(type(found), type(index))

    def test_none(self):
        self.differ(None, (), ())
        self.differ(None, START, START)
        self.differ(None, FIGURES, FIGURES)

    def test_the_same_things_by_other_steps(self):
        self.differ(None, FIGURES + (("meet", 2, 3, 0),), FIGURES + (("meet", 3, 2, 0),))
        self.differ(None, FIGURES + (("meet", 2, 4, 1),), FIGURES + (("point", 1, 0),))
        self.differ(None, START + (("line", 0, 1),), START + (("line", 1, 0),))
        far = (("point", 0, 0), ("point", 1, 0), ("point", 7, 0), ("point", -1, 0))
        self.differ(None, far + (("line", 0, 1),), far + (("line", 3, 2),))
        self.differ(None, far + (("circle", 1, 0, 1),), far + (("circle", 1, 3, 0),))
        six = FIGURES + (("meet", 2, 3, 1), ("meet", 2, 3, 0))
        self.differ(None, six + (("circle", 5, 5, 0),), six + (("circle", 5, 6, 1),))

    def test_the_same_things_by_irrational_numbers(self):
        again = AGAIN + (("line", 10, 11), ("circle", 10, 10, 11), ("line", 10, 5), ("circle", 5, 11, 10))
        plain = AGAIN[:10] + (("point", 0, 0), ("point", 1, 0), ("line", 0, 1), ("circle", 0, 0, 1), ("line", 0, 5),
                              ("circle", 5, 0, 1))
        self.differ(None, again, plain)

    def test_the_first_that_differs(self):
        self.differ(0, (("point", 0, 0),), (("point", 0, 1),))
        self.differ(1, START, (("point", 0, 0), ("point", 2, 0)))
        self.differ(5, FIGURES + (("meet", 2, 3, 0),), FIGURES + (("meet", 2, 3, 1),))
        self.differ(5, FIGURES + (("meet", 2, 3, 0), ("line", 0, 5)), FIGURES + (("meet", 2, 3, 1), ("line", 0, 5)))
        self.differ(2, START + (("line", 0, 1), ("circle", 0, 0, 1)), START + (("circle", 0, 0, 1), ("line", 0, 1)))
        self.differ(2, START + (("circle", 0, 0, 1),), START + (("circle", 1, 0, 1),))
        self.differ(2, START + (("point", 0, 1), ("line", 0, 2)), START + (("point", 0, 2), ("line", 0, 2)))
        self.differ(3, START + (("point", 0, 1), ("line", 0, 2)), START + (("point", 0, 1), ("line", 1, 2)))

    def test_a_point_and_a_figure(self):
        self.differ(2, START + (("point", 5, 5),), START + (("line", 0, 1),))
        self.differ(2, START + (("point", 5, 5),), START + (("circle", 0, 0, 1),))

    def test_another_number_of_steps(self):
        self.differ(0, (), START)
        self.differ(1, START[:1], START)
        self.differ(4, FIGURES, FIGURES[:4])
        self.differ(2, START, START + (("line", 1, 0),))
        self.differ(1, START[:1] + (("point", 3, 3),), FIGURES)

    def test_as_same_says(self):
        chance = random.Random(8)
        for seed in range(4):
            drawing = some_drawing(random.Random(seed), 60)
            turned = tuple([turned_step(step) for step in drawing])
            self.differ(None, drawing, turned)
            at = chance.randrange(4, 60)
            other = drawing[:at] + (("point", 10 ** 9, 1),) + drawing[at + 1:]
            self.differ(at, drawing[:at + 1], other[:at + 1])
            one, second = draw(drawing), draw(turned)
            for thing, again in zip(one, second):
                self.assertTrue(same(thing, again) if isinstance(thing[0], str) else thing == again)


def some_step(chance):
    word = chance.choice(("point", "line", "circle", "meet"))
    many = 3 if word in ("circle", "meet") else 2
    return (word, *[chance.choice((0, 1, chance.randint(-10 ** 30 + 1, 10 ** 30 - 1))) for _ in range(many)])


if __name__ == "__main__":
    unittest.main()
