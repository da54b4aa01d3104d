"""Sheets: what a drawing draws, step by step, as points and figures of compasswork.shapes."""

from compasswork.fields import whole_element
from compasswork.shapes import circle_shape, line_shape, same_shapes, shape_meets


class Sheet:
    """The things of the first steps of a drawing, in a field that several sheets may share."""

    def __init__(self, field):
        self.field = field
        self.things = []
        self.met = {}

    def takes(self, step):
        """Draws one more step of a well formed drawing. False if it cannot be drawn."""
        thing = self._thing(step)
        if thing is None:
            return False
        self.things.append(thing)
        return True

    def _thing(self, step):
        if step[0] == "point":
            return whole_element(step[1]), whole_element(step[2])
        if step[0] == "meet":
            found = self._meets(step[1], step[2])
            return found[step[3]] if step[3] < len(found) else None
        points = [self.things[k] for k in step[1:]]
        if points[-2] == points[-1]:
            return None
        if step[0] == "line":
            return line_shape(self.field, points[0], points[1])
        return circle_shape(self.field, points[0], points[1], points[2])

    def _meets(self, i, j):
        """The meets of the figures of two steps; mostly both are asked for, one after the other."""
        pair = (min(i, j), max(i, j))
        if pair not in self.met:
            self.met[pair] = shape_meets(self.field, self.things[pair[0]], self.things[pair[1]])
        return self.met[pair]


def same_things(field, one, other):
    """Whether two things, points or figures, are the same."""
    # A point is a pair, and does not begin with a word as figures do.
    if len(one) == 2:
        return one == other
    return same_shapes(field, one, other)
