"""Drawings: their texts, which are well formed, what they draw, and how two of them differ."""

from compasswork.errors import BadStep, BadText, NotDrawn
from compasswork.fields import Field
from compasswork.sheets import Sheet, same_things
from compasswork.words import integer_of

# How many integers stand behind the first word of a step.
FORMS = {"point": 2, "line": 2, "circle": 3, "meet": 3}
POINTS = ("point", "meet")
FIGURES = ("line", "circle")


def check(drawing):
    """Returns None if the drawing is well formed."""
    for index, step in enumerate(drawing):
        if not _well_formed(drawing, index, step):
            raise BadStep(index)


def _well_formed(drawing, index, step):
    """Whether a step is well formed; the earlier steps are."""
    if step[0] == "point":
        return True
    if step[0] == "meet":
        return step[3] in (0, 1) and _name_earlier(drawing, index, step[1:3], FIGURES)
    return _name_earlier(drawing, index, step[1:], POINTS)


def _name_earlier(drawing, index, named, words):
    """Whether all that is named are indexes of steps before the index, with one of the first words."""
    for k in named:
        if not 0 <= k < index or drawing[k][0] not in words:
            return False
    return True


def draw(drawing):
    """The tuple of the things that the steps of a well formed drawing give."""
    sheet = Sheet(Field())
    for index, step in enumerate(drawing):
        if not sheet.takes(step):
            raise NotDrawn(index)
    told = []
    for step, thing in zip(drawing, sheet.things):
        if step[0] in POINTS:
            told.append((sheet.field.number(thing[0]), sheet.field.number(thing[1])))
        else:
            told.append((step[0], *[told[k] for k in step[1:]]))
    return tuple(told)


def read_drawing(text):
    """The drawing that the text writes."""
    if text == "":
        return ()
    steps = []
    for place, line in enumerate(text.split("\n")):
        step = _read_step(line)
        if step is None:
            raise BadText(place)
        steps.append(step)
    return tuple(steps)


def _read_step(line):
    """The step that the line writes, or None if it has not one of the forms."""
    words = line.split(" ")
    if FORMS.get(words[0]) != len(words) - 1:
        return None
    integers = [integer_of(word) for word in words[1:]]
    if None in integers:
        return None
    return words[0], *integers


def write_drawing(drawing):
    """The text of the drawing."""
    return "\n".join([" ".join([str(part) for part in step]) for step in drawing])


def difference(one, other):
    """The index at which two drawings that can be drawn first differ in their things, or None."""
    field = Field()
    sheets = Sheet(field), Sheet(field)
    for index in range(min(len(one), len(other))):
        sheets[0].takes(one[index])
        sheets[1].takes(other[index])
        if not same_things(field, sheets[0].things[index], sheets[1].things[index]):
            return index
    if len(one) != len(other):
        return min(len(one), len(other))
    return None
