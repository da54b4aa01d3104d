"""Formulas: their texts and their values."""

from compasswork.errors import BadText, NegativeRoot, ZeroDivisor
from compasswork.fields import Field, whole_element
from compasswork.words import integer_of

# How many formulas stand in a formula with this word.
PARTS = {"add": 2, "sub": 2, "mul": 2, "div": 2, "neg": 1, "root": 1}


def read_formula(text):
    """The formula that the text writes."""
    words = text.split(" ")
    fault = _fault(words)
    if fault is not None:
        raise BadText(fault)
    # From the last word on, the formulas in a formula are there before it.
    found = []
    for word in reversed(words):
        parts = PARTS.get(word, 0)
        if parts == 0:
            found.append(("number", int(word)))
        elif parts == 1:
            found.append((word, found.pop()))
        else:
            first = found.pop()
            found.append((word, first, found.pop()))
    return found[0]


def _fault(words):
    """The index of the first word that cannot stand at its place, or None if the words are those of a formula."""
    missing = 1
    for place, word in enumerate(words):
        parts = PARTS.get(word, 0)
        if missing == 0 or parts == 0 and integer_of(word) is None:
            return place
        missing = missing + parts - 1
    if missing > 0:
        return len(words)
    return None


def write_formula(formula):
    """The text of the formula."""
    words = []
    # Formulas may be too deep for functions that call themselves.
    waiting = [formula]
    while waiting:
        part = waiting.pop()
        if part[0] == "number":
            words.append(str(part[1]))
        else:
            words.append(part[0])
            waiting.extend(part[:0:-1])
    return " ".join(words)


def value(formula):
    """The value of the formula, as a number."""
    field = Field()
    return field.number(element_of(field, formula))


def element_of(field, formula):
    """The value of the formula, as an element of the field."""
    found = []
    waiting = [(formula, False)]
    while waiting:
        part, inside_known = waiting.pop()
        if part[0] == "number":
            found.append(whole_element(part[1]))
        elif inside_known:
            last = found.pop()
            if PARTS[part[0]] == 1:
                found.append(_of_one(field, part[0], last))
            else:
                found.append(_of_two(field, part[0], found.pop(), last))
        else:
            waiting.append((part, True))
            waiting.extend([(inner, False) for inner in part[:0:-1]])
    return found[0]


def _of_one(field, word, one):
    if word == "neg":
        return field.negative(one)
    if field.sign(one) < 0:
        raise NegativeRoot()
    return field.root(one)


def _of_two(field, word, one, other):
    if word == "add":
        return field.plus(one, other)
    if word == "sub":
        return field.minus(one, other)
    if word == "mul":
        return field.product(one, other)
    if field.sign(other) == 0:
        raise ZeroDivisor()
    return field.quotient(one, other)
