"""Shorter drawings of the same last thing."""

from compasswork.fields import Field
from compasswork.shapes import known_by
from compasswork.sheets import Sheet


def shorten(drawing):
    """The short form of a drawing that can be drawn."""
    first = _first_steps(drawing)
    needed = _needed(drawing, first)
    places = {}
    for index in range(len(drawing)):
        if needed[index]:
            places[index] = len(places)
    return tuple([_renamed(drawing[index], first, places) for index in places])


def _first_steps(drawing):
    """For each step the index of the first step that gives the same thing."""
    sheet = Sheet(Field())
    first = []
    found = {}
    for index, step in enumerate(drawing):
        sheet.takes(step)
        first.append(found.setdefault(known_by(sheet.field, sheet.things[index]), index))
    return first


def _needed(drawing, first):
    """For each step whether the last one needs it, if steps name the first one that gives a thing."""
    needed = [False] * len(drawing)
    needed[first[-1]] = True
    for index in reversed(range(len(drawing))):
        if needed[index]:
            for k in _named(drawing[index]):
                needed[first[k]] = True
    return needed


def _named(step):
    """The indexes that a step names."""
    if step[0] == "point":
        return ()
    if step[0] == "meet":
        return step[1:3]
    return step[1:]


def _renamed(step, first, places):
    """The step with other indexes."""
    named = [places[first[k]] for k in _named(step)]
    rest = step[1 + len(named):]
    return step[0], *named, *rest
