"""Formulas: their texts and their values."""

from compasswork.errors import BadText, NegativeRoot, ZeroDivisor
from compasswork.fields import Field, whole_element
from compasswork.words import integer_of

# How many formulas stand in a formula with this word.
PARTS = {"add": 2, "sub": 2, "mul": 2, "div": 2, "neg": 1, "root": 1}


def read_formula(text):
    """The formula that the text writes."""
    words = text.split(" ")
    fault = _fault(words)
    if fault is not None:
        raise BadText(fault)
    # From the last word on, the formulas in a formula are there before it.
    found = []
    for word in reversed(words):
        parts = PARTS.get(word, 0)
        if parts == 0:
            found.append(("number", int(word)))
        elif parts == 1:
            found.append((word, found.pop()))
        else:
            first = found.pop()
            found.append((word, first, found.pop()))
    return found[0]


def _fault(words):
    """The index of the first word that cannot stand at its place, or None if the words are those of a formula."""
    missing = 1
    for place, word in enumerate(words):
        parts = PARTS.get(word, 0)
        if missing == 0 or parts == 0 and integer_of(word) is None:
            return place
        missing = missing + parts - 1
    if missing > 0:
        return len(words)
    return None


def write_formula(formula):
    """The text of the formula."""
    words = []
    # Formulas may be too deep for functions that call themselves.
    waiting = [formula]
    while waiting:
        part = waiting.pop()
        if part[0] == "number":
            words.append(str(part[1]))
        else:
            words.append(part[0])
            waiting.extend(part[:0:-1])
    return " ".join(words)


def value(formula):
    """The value of the formula, as a number."""
    field = Field()
    told = worked_out(field, formula)
    return field.number(told[-1][1])


def worked_out(field, formula):
    """Each formula in the formula, in the order of the work, as (word, element, elements of its parts)."""
    told = []
    found = []
    for part in _inside_first(formula):
        if part[0] == "number":
            parts = []
            whole = whole_element(part[1])
        else:
            parts = [found.pop() for _ in part[1:]][::-1]
            whole = _combined(field, part[0], parts)
        found.append(whole)
        told.append((part[0], whole, parts))
    return told


def _inside_first(formula):
    """The formulas in the formula, in the order in which they are worked out; itself last."""
    falling = []
    waiting = [formula]
    while waiting:
        part = waiting.pop()
        falling.append(part)
        if part[0] != "number":
            waiting.extend(part[1:])
    return falling[::-1]


def _combined(field, word, parts):
    """The element of a formula whose parts have these elements."""
    last = parts[-1]
    if word == "add":
        return field.plus(parts[0], last)
    if word == "sub":
        return field.minus(parts[0], last)
    if word == "mul":
        return field.product(parts[0], last)
    if word == "neg":
        return field.negative(last)
    if word == "div":
        if field.sign(last) == 0:
            raise ZeroDivisor()
        return field.quotient(parts[0], last)
    if field.sign(last) < 0:
        raise NegativeRoot()
    return field.root(last)
