import random
import unittest

from compasswork import compiling
from compasswork.compiling import drawing_of
from compasswork.drawings import check, draw, read_drawing, write_drawing
from compasswork.errors import NegativeRoot, WorkError, ZeroDivisor
from compasswork.formulas import read_formula, value, write_formula
from compasswork.numbers import Number

START = (("point", 0, 0), ("point", 1, 0))

# Texts of formulas with a value.
COMPILED = (
    # Integers, and formulas that are one of the first two points or an earlier one.
    "0", "1", "-1", "2", "-2", "3", "4", "5", "7", "8", "1023", "1024", "8191", "-8191", "9999", "10000", "-10000",
    "neg 0", "neg 1", "neg -1", "neg neg 1", "neg neg neg 5", "neg 10000",
    "root 0", "root 1", "root root 1", "root root root root 1", "root 4", "root root 16", "root 10000",
    "add 0 0", "add 0 1", "add 1 0", "add 0 5", "add 5 0", "sub 0 0", "sub 1 1", "sub 1 0", "sub 0 1", "sub 0 5",
    "sub 5 0", "mul 0 0", "mul 0 5", "mul 5 0", "mul 1 1", "mul 1 5", "mul 5 1", "mul -1 -1", "mul 0 root 2",
    "div 0 1", "div 0 -7", "div 1 1", "div 5 5", "div 5 1", "div 5 -1", "div 6 3", "div 3 6", "div 0 root 2",
    "sub 3 2", "sub 2 3", "add 5 -4", "add 1 -1", "add -1 1", "sub root 2 root 2", "add root 2 neg root 2",
    # Sums, differences, products and quotients, also of equal numbers and with all signs.
    "add 2 3", "add -2 3", "add 2 -3", "add -2 -3", "sub 2 3", "sub -2 3", "sub 2 -3", "sub -2 -3",
    "mul 2 3", "mul -2 3", "mul 2 -3", "mul -2 -3", "div 2 3", "div -2 3", "div 2 -3", "div -2 -3",
    "add 2 2", "add -3 -3", "mul 2 2", "mul -3 -3", "mul 4 4", "mul 4 -4", "mul 5 5", "div 4 5", "div 5 4",
    "add 4 -4", "mul -4 4", "div 4 -4", "div -5 -5", "div 1 4", "div 1 -4", "mul 1 -1", "div -1 -1", "mul -1 5",
    "add root 2 root 2", "mul root 2 root 2", "mul root 2 neg root 2", "div root 2 root 2", "div 1 root 2",
    "mul 10000 10000", "div 1 10000", "div 9999 -10000", "mul div 1 3 div 1 3", "add div 1 3 div 1 3",
    "mul mul 100 100 mul 100 100", "mul mul mul mul 9999 9998 9997 -9996 9995",
    "div div div div 8191 7167 -7679 7935 8063", "div div -8191 7167 mul -7679 div 7935 -8063",
    "sub sub sub sub 1 10 100 1000 10000",
    # Roots, of great and little numbers, of quotients, of sums, of roots.
    "root 2", "root 3", "root 5", "root 9999", "neg root 2", "root div 1 4", "root div 9 4", "root div 1 10000",
    "root div 1 2", "root div 3 4", "root add 1 root 2", "root sub root 3 1", "root sub 2 root 3", "root root 2",
    "root root root 2", "root root root root 16", "root root root 10000", "root neg -2", "root neg neg 7",
    "root add root 2 root 2", "root mul root 2 root 8", "root sub root 2 root 2", "root mul -2 -2", "root mul 0 -2",
    "root root div 1 10000", "root sub 3 mul 2 root 2", "root sub root 10000 99", "add 1 root add 1 root 2",
    # Fields of degree 8, and numbers of less degree in such a field.
    "add root 2 add root 3 root 5", "mul root 2 mul root 3 root 5", "add root 2 root root 3", "root add root 2 root 3",
    "div root 2 add root 3 root 5", "sub root 2 sub root 3 root 5", "root root add 1 root 2", "root add 2 root root 3",
    "root sub 7 root add 1 root 5", "mul root root 2 root 3", "div root root 2 neg root 3",
    "mul root 7 root add 2 root 3", "add root add 2 root 3 root 5",
)

# Texts of formulas without a value.
WITHOUT_VALUE = (
    ("div 1 0", ZeroDivisor),
    ("div 0 0", ZeroDivisor),
    ("div 1 sub 2 2", ZeroDivisor),
    ("div 1 sub root 8 mul 2 root 2", ZeroDivisor),
    ("root -1", NegativeRoot),
    ("root sub 1 root 2", NegativeRoot),
    ("root neg root 2", NegativeRoot),
    ("root sub root 9999 100", NegativeRoot),
    ("mul 0 root -1", NegativeRoot),
    ("div 0 root -1", NegativeRoot),
    ("div root -1 0", NegativeRoot),
    ("root div -1 0", ZeroDivisor),
    ("add root -1 div 1 0", NegativeRoot),
    ("add div 1 0 root -1", ZeroDivisor),
    ("div div 1 0 root -1", ZeroDivisor),
    ("sub root neg 2 div 1 0", NegativeRoot),
    ("root sub 1 div 3 0", ZeroDivisor),
    ("neg neg neg root -10000", NegativeRoot),
)


def some_formula(chance, many):
    """A formula with as many words."""
    if many == 1:
        return "number", chance.choice((0, 1, -1, 2, 3, chance.randint(-10 ** 4, 10 ** 4)))
    if many == 2 or chance.random() < 0.3:
        return chance.choice(("neg", "root", "root")), some_formula(chance, many - 1)
    first = chance.randint(1, many - 2)
    word = chance.choice(("add", "sub", "mul", "div"))
    return word, some_formula(chance, first), some_formula(chance, many - 1 - first)


def error_of(function, formula):
    """The name of the error that the function raises, or None."""
    try:
        function(formula)
    except WorkError as error:
        return error.__class__.__name__
    return None


class Interface(unittest.TestCase):
    def test_function_is_defined_in_the_file(self):
        self.assertEqual(drawing_of.__module__, compiling.__name__)
        self.assertEqual(drawing_of.__code__.co_varnames[:drawing_of.__code__.co_argcount], ("formula",))


class Compiled(unittest.TestCase):
    def draws_value(self, formula):
        """That the drawing has all the properties that a drawing of the formula has; returns it."""
        drawing = drawing_of(formula)
        self.assertIs(type(drawing), tuple)
        self.assertTrue(2 <= len(drawing) <= 600)
        self.assertEqual(drawing[:2], START)
        for step in drawing:
            self.assertIs(type(step), tuple)
            self.assertEqual([type(part) for part in step], [str] + [int] * (len(step) - 1))
        self.assertNotIn("point", [step[0] for step in drawing[2:]])
        self.assertIsNone(check(drawing))
        things = draw(drawing)
        self.assertIn(drawing[-1][0], ("point", "meet"))
        self.assertEqual(things[-1], (value(formula), Number(0)), write_formula(formula))
        self.assertEqual(drawing_of(formula), drawing)
        return drawing, things

    def test_formulas(self):
        for text in COMPILED:
            self.assertLessEqual(len(text.split(" ")), 9)
            formula = read_formula(text)
            self.draws_value(formula)
            # Nothing that is passed changes.
            self.assertEqual(write_formula(formula), text)

    def test_zero_and_one(self):
        for text, number in (("0", 0), ("1", 1)):
            drawing, things = self.draws_value(("number", int(text)))
            self.assertEqual(things[-1], (Number(number), Number(0)))
            self.assertGreaterEqual(len(drawing), 2)

    def test_all_small_integers(self):
        for n in range(-70, 71):
            self.draws_value(("number", n))

    def test_great_integers(self):
        chance = random.Random(1)
        for n in [10 ** 4, -10 ** 4, 2 ** 13 - 1, 2 ** 13, -2 ** 13] + [chance.randint(-10 ** 4, 10 ** 4)
                                                                         for _ in range(30)]:
            self.draws_value(("number", n))

    def test_field_of_the_points(self):
        chance = random.Random(2)
        for text in COMPILED:
            formula = read_formula(text)
            drawing, things = self.draws_value(formula)
            # A sum with weights like these lies in no smaller field than the points do.
            total = Number(0)
            for step, thing in zip(drawing, things):
                if step[0] in ("point", "meet"):
                    for part in thing:
                        total = total + part * Number(chance.randint(1, 10 ** 9))
            self.assertLessEqual(total.degree(), 16)
            # More than is promised: no roots but those of the formula.
            self.assertLessEqual(total.degree(), 2 ** text.count("root"), text)

    def test_any_formulas(self):
        chance = random.Random(3)
        kinds = {}
        for _ in range(400):
            formula = some_formula(chance, chance.randint(1, 9))
            error = error_of(value, formula)
            if error is not None:
                self.assertEqual(error_of(drawing_of, formula), error, formula)
            elif write_formula(formula).count("root") <= 3:
                self.draws_value(formula)
            kinds[error] = kinds.get(error, 0) + 1
        self.assertEqual(len(kinds), 3)

    def test_most_steps(self):
        for text in ("mul mul -8191 6143 div -7679 div 7167 5119", "div div 2557 -8191 mul 6143 div -7167 -7679",
                     "root root root 9999", "div root 8191 mul root 6143 -4095"):
            self.draws_value(read_formula(text))

    def test_somewhat_beyond_the_limits(self):
        for text in ("1000000", "-123456789012345678901234567890", "add 1 " * 29 + "root 2",
                     "root sub root 7 root add 1 root 5", "mul root 2 mul root 3 mul root 5 root 7",
                     "div sub add add root 17 root sub 34 mul 2 root 17 mul 2 root sub sub add 17 mul 3 root 17"
                     " root sub 34 mul 2 root 17 mul 2 root add 34 mul 2 root 17 1 16"):
            formula = read_formula(text)
            drawing = drawing_of(formula)
            self.assertIsNone(check(drawing))
            self.assertEqual(draw(drawing)[-1], (value(formula), Number(0)))

    def test_text_of_the_drawing(self):
        for text in ("0", "root 2", "div root 5 -3"):
            drawing = drawing_of(read_formula(text))
            self.assertEqual(read_drawing(write_drawing(drawing)), drawing)


class WithoutValue(unittest.TestCase):
    def test_errors(self):
        for text, error in WITHOUT_VALUE:
            formula = read_formula(text)
            with self.assertRaises(error, msg=text) as caught:
                drawing_of(formula)
            self.assertIs(type(caught.exception), error)
            self.assertEqual(caught.exception.args, ())
            with self.assertRaises(error):
                value(formula)


if __name__ == "__main__":
    unittest.main()
