import random
import unittest

from compasswork import formulas
from compasswork.errors import BadText, NegativeRoot, ZeroDivisor
from compasswork.formulas import read_formula, value, write_formula
from compasswork.numbers import Number

THIRTY = "9" * 30

# Formulas and their texts.
TEXTS = (
    (("number", 0), "0"),
    (("number", 7), "7"),
    (("number", -10), "-10"),
    (("number", 10 ** 30 - 1), THIRTY),
    (("number", 1 - 10 ** 30), "-" + THIRTY),
    (("neg", ("number", 3)), "neg 3"),
    (("neg", ("number", -3)), "neg -3"),
    (("root", ("root", ("number", 2))), "root root 2"),
    (("add", ("number", 1), ("root", ("number", 2))), "add 1 root 2"),
    (("sub", ("number", 1), ("number", 2)), "sub 1 2"),
    (("mul", ("sub", ("number", 1), ("number", 2)), ("number", 3)), "mul sub 1 2 3"),
    (("div", ("number", 1), ("div", ("number", 2), ("number", 3))), "div 1 div 2 3"),
    (("div", ("div", ("number", 1), ("number", 2)), ("number", 3)), "div div 1 2 3"),
)

# Texts that cannot be read, and their faults.
FAULTS = (
    ("", 0),
    (" ", 0),
    ("add", 1),
    ("add 1", 2),
    ("add 1 ", 2),
    ("add 1 2 ", 3),
    ("add 1 2 3", 3),
    ("add  1 2", 1),
    (" add 1 2", 0),
    ("1 ", 1),
    ("1 2", 1),
    ("1 add", 1),
    ("1  ", 1),
    ("neg", 1),
    ("neg neg", 2),
    ("mul add 1 2", 4),
    ("mul add 1 2 3 4", 5),
    ("mul add 1 2 3 oops", 5),
    ("mul add 1 x y", 3),
    ("number 1", 0),
    ("add number 1 2", 1),
    ("Add 1 2", 0),
    ("adds 1 2", 0),
    ("sqrt 2", 0),
    ("root two", 1),
    ("root\t2", 0),
    ("root 2\n", 1),
    ("root\n2", 0),
    ("add 1 root", 3),
    ("01", 0),
    ("00", 0),
    ("-0", 0),
    ("neg -0", 1),
    ("-01", 0),
    ("-", 0),
    ("--1", 0),
    ("+1", 0),
    ("1-", 0),
    ("1.0", 0),
    ("1/2", 0),
    ("1_0", 0),
    ("0x1", 0),
    ("1e3", 0),
    ("\u0661", 0),
    ("\u00b2", 0),
    ("add 1 1" + THIRTY, 2),
    ("add -1" + THIRTY + " 1", 1),
    ("add 0" + THIRTY + " x", 1),
)

# Texts of formulas, with the polynomials and places of their values.
VALUES = (
    ("5", (-5, 1), 0),
    ("add 2 3", (-5, 1), 0),
    ("sub 2 3", (1, 1), 0),
    ("mul -2 3", (6, 1), 0),
    ("div 2 3", (-2, 3), 0),
    ("div 0 3", (0, 1), 0),
    ("neg 4", (4, 1), 0),
    ("neg -4", (-4, 1), 0),
    ("root 0", (0, 1), 0),
    ("root 9", (-3, 1), 0),
    ("root div 9 4", (-3, 2), 0),
    ("root 2", (-2, 0, 1), 1),
    ("neg root 2", (-2, 0, 1), 0),
    ("sub root 2 root 2", (0, 1), 0),
    ("sub root 8 mul 2 root 2", (0, 1), 0),
    ("sub root 3 root 2", (1, 0, -10, 0, 1), 2),
    ("div root 6 root 2", (-3, 0, 1), 1),
    ("div 1 sub root 2 1", (-1, -2, 1), 1),
    ("div sub root 5 1 2", (-1, 1, 1), 1),
    ("root add 3 mul 2 root 2", (-1, -2, 1), 1),
    ("root mul sub 2 root 3 sub 2 root 3", (1, -4, 1), 0),
    ("root add 2 root add 2 root 2", (2, 0, -16, 0, 20, 0, -8, 0, 1), 7),
    ("root root root 3", (-3, 0, 0, 0, 0, 0, 0, 0, 1), 1),
    ("add root add 10 root 17 root sub 10 root 17", (68, 0, -40, 0, 1), 3),
    ("mul root add 10 root 17 root sub 10 root 17", (-83, 0, 1), 1),
    ("root sub root 2 root 2", (0, 1), 0),
)

# Texts of formulas without a value.
WITHOUT_VALUE = (
    ("div 1 0", ZeroDivisor),
    ("div 0 0", ZeroDivisor),
    ("div 1 sub root 8 mul 2 root 2", ZeroDivisor),
    ("root -1", NegativeRoot),
    ("root neg root 2", NegativeRoot),
    ("root sub 7 mul 5 root 2", NegativeRoot),
    ("mul 0 root -1", NegativeRoot),
    ("div root -1 0", NegativeRoot),
    ("div 0 root -1", NegativeRoot),
    ("root div -1 0", ZeroDivisor),
    ("add root -1 div 1 0", NegativeRoot),
    ("add div 1 0 root -1", ZeroDivisor),
    ("sub neg root neg 2 div 1 0", NegativeRoot),
    ("div div 1 0 root -1", ZeroDivisor),
    ("div mul 1 root -2 div 1 0", NegativeRoot),
    ("mul add 1 div 1 sub 1 1 root sub 1 2", ZeroDivisor),
    ("mul root sub 1 2 add 1 div 1 sub 1 1", NegativeRoot),
)


def some_formula(chance, many):
    """A formula with as many words."""
    if many == 1:
        return "number", chance.choice((0, 1, 2, chance.randint(-10 ** 30 + 1, 10 ** 30 - 1)))
    if many == 2 or chance.random() < 0.3:
        return chance.choice(("neg", "root")), some_formula(chance, many - 1)
    first = chance.randint(1, many - 2)
    word = chance.choice(("add", "sub", "mul", "div"))
    return word, some_formula(chance, first), some_formula(chance, many - 1 - first)


def value_step_by_step(formula):
    """The value by the operators of Number alone."""
    if formula[0] == "number":
        return Number(formula[1])
    parts = [value_step_by_step(part) for part in formula[1:]]
    return {
        "add": lambda: parts[0] + parts[1],
        "sub": lambda: parts[0] - parts[1],
        "mul": lambda: parts[0] * parts[1],
        "div": lambda: parts[0].over(parts[1]),
        "neg": lambda: -parts[0],
        "root": lambda: parts[0].root(),
    }[formula[0]]()


def outcome(function, formula):
    """The value, or the name of the error."""
    try:
        return function(formula)
    except (ZeroDivisor, NegativeRoot) as error:
        return error.__class__.__name__


class Interface(unittest.TestCase):
    def test_functions_are_defined_in_the_file(self):
        for name in ("read_formula", "write_formula", "value"):
            self.assertEqual(getattr(formulas, name).__module__, "compasswork.formulas")


class Texts(unittest.TestCase):
    def test_write(self):
        for formula, text in TEXTS:
            self.assertEqual(write_formula(formula), text)

    def test_read(self):
        for formula, text in TEXTS:
            self.assertEqual(read_formula(text), formula)

    def test_faults(self):
        for text, place in FAULTS:
            with self.assertRaises(BadText, msg=text) as caught:
                read_formula(text)
            self.assertEqual(caught.exception.place, place, text)

    def test_each_other(self):
        chance = random.Random(5)
        for many in list(range(1, 61)) + [400]:
            formula = some_formula(chance, many)
            text = write_formula(formula)
            self.assertEqual(len(text.split(" ")), many)
            self.assertEqual(read_formula(text), formula)

    def test_fault_whatever_comes_behind_it(self):
        chance = random.Random(6)
        for many in range(2, 61):
            words = write_formula(some_formula(chance, many)).split(" ")
            at = chance.randrange(many)
            for behind in ([], words[at + 1:], [""], ["oops"], ["1"] * many):
                self.fault_of(words[:at] + ["oops"] + behind, at)
                self.fault_of(words + ["1"] + behind, many)
            self.fault_of(words[:at], max(at, 1) if at else 0)

    def fault_of(self, words, place):
        with self.assertRaises(BadText) as caught:
            read_formula(" ".join(words))
        self.assertEqual(caught.exception.place, place, words)

    def test_longest_texts(self):
        for word in ("neg", "root"):
            text = (word + " ") * 399 + "1"
            self.assertEqual(write_formula(read_formula(text)), text)
        deep = "neg " * 499 + "1"
        formula = read_formula(deep)
        self.assertEqual(write_formula(formula), deep)
        for _ in range(499):
            self.assertEqual((formula[0], len(formula)), ("neg", 2))
            formula = formula[1]
        self.assertEqual(formula, ("number", 1))

    def test_longest_texts_of_sums(self):
        for text in ("add " * 333 + "1" + " 1" * 333, "add 1 " * 333 + "1"):
            self.assertLessEqual(len(text), 2000)
            self.assertEqual(write_formula(read_formula(text)), text)
            self.assertEqual(value(read_formula(text)), Number(334))

    def test_longest_texts_with_faults(self):
        self.fault_of(["neg"] * 500, 500)
        self.fault_of(["neg"] * 498 + ["1", "1"], 499)
        self.fault_of(["add"] * 400 + ["1"] * 199, 599)
        self.fault_of([""] * 2001, 0)
        self.fault_of(["1" * 2000], 0)


class Values(unittest.TestCase):
    def test_values(self):
        for text, polynomial, place in VALUES:
            number = value(read_formula(text))
            self.assertIs(type(number), Number)
            self.assertEqual((number.polynomial(), number.place()), (polynomial, place), text)

    def test_without_value(self):
        for text, error in WITHOUT_VALUE:
            with self.assertRaises(error, msg=text) as caught:
                value(read_formula(text))
            self.assertEqual(caught.exception.args, ())

    def test_step_by_step(self):
        chance = random.Random(7)
        kinds = {}
        for _ in range(300):
            formula = some_formula(chance, chance.randint(1, 20))
            if write_formula(formula).count("root") <= 3:
                found = outcome(value, formula)
                self.assertEqual(found, outcome(value_step_by_step, formula), formula)
                kind = found if isinstance(found, str) else "number"
                kinds[kind] = kinds.get(kind, 0) + 1
        self.assertEqual(sorted(kinds), ["NegativeRoot", "ZeroDivisor", "number"])

    def test_same_formula_again(self):
        formula = read_formula("div add 1 root 5 2")
        self.assertEqual(value(formula), value(formula))

    def test_deep_formulas(self):
        self.assertEqual(value(read_formula("neg " * 499 + "1")), Number(-1))
        self.assertEqual(value(read_formula("root " * 399 + "1")), Number(1))
        self.assertEqual(value(read_formula("add 1 " * 30 + "root " * 4 + "2")).degree(), 16)

    def test_fields_of_degree_16(self):
        nested = value(read_formula("root add 5 root add 2 root add 3 root 7"))
        again = Number(5) + (Number(2) + (Number(3) + Number(7).root()).root()).root()
        self.assertEqual(nested * nested, again)
        text = "mul add add root 2 root 3 add root 5 root 7 sub add root 2 root 3 add root 5 root 7"
        self.assertEqual(value(read_formula(text)), Number(-7) + Number(24).root() - Number(140).root())
        # Roots that all lie in the field of the first four.
        many = (2, 3, 5, 7, 6, 10, 14, 15, 21, 35, 30, 210)
        whole = value(read_formula("add " * 11 + " ".join([f"root {n}" for n in many])))
        total = Number(0)
        for n in many:
            total = total + Number(n).root()
        self.assertEqual(whole, total)
        self.assertEqual(whole.degree(), 16)

    def test_great_integers(self):
        least = value(read_formula(f"sub root {THIRTY} root sub {THIRTY} 1"))
        self.assertEqual(least.sign(), 1)
        self.assertEqual(Number(1).over(least).floor(), 2 * 10 ** 15 - 1)
        same = value(read_formula(f"sub div {THIRTY} 7 div {THIRTY} 7"))
        self.assertEqual(same, Number(0))


if __name__ == "__main__":
    unittest.main()
