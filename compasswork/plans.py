"""Plans: drawings in the making, which draw numbers as points of the line through the points 0 and 1.

The other points that they draw have coordinates from the field of the numbers too, so that no field grows.
"""

from compasswork.fields import whole_element


class Plan:
    """The steps of a drawing, and the index of the step for each number that is drawn.

    Numbers are elements of the field.
    """

    def __init__(self, field):
        self.field = field
        self.steps = [("point", 0, 0), ("point", 1, 0)]
        self.places = {}
        self.known = {whole_element(0): 0, whole_element(1): 1}

    def step(self, *parts):
        """The index of the step, which is taken only once."""
        if parts not in self.places:
            self.places[parts] = len(self.steps)
            self.steps.append(parts)
        return self.places[parts]

    def draws(self, word, whole, parts):
        """Draws the number that comes by the word of a formula from others, which are drawn."""
        if whole not in self.known:
            self.known[whole] = self._drawn(word, whole, parts)

    def _drawn(self, word, whole, parts):
        """The index of the step that gives the number."""
        # A sum with 0, a product with 0 and the like never come here: these numbers are drawn already. So no two
        # points that must differ fall together below.
        if word == "number":
            return self._integer(whole[0][0])
        if word == "root":
            return self._root(parts[0])
        if word == "mul":
            return self._product(whole, parts)
        if word == "div":
            return self._quotient(whole, parts)
        if word == "add":
            return self._moved(self.known[parts[0]], parts[1], 1)
        if word == "sub":
            return self._moved(self.known[parts[0]], parts[1], -1)
        return self._moved(0, parts[0], -1)

    def ending(self, whole):
        """The drawing, with a last step that gives the point of a number that is drawn."""
        index = self.known[whole]
        if index != len(self.steps) - 1:
            again = self._again(index)
            self.steps.append(again)
        return tuple(self.steps)

    def _again(self, index):
        """One more meet that gives the point of the line that a step gives."""
        if index > 1:
            return self.steps[index]
        # Around the other one of the first two points, through this one.
        return "meet", self._axis(), self.step("circle", 1 - index, 0, 1), index

    def _axis(self):
        return self.step("line", 0, 1)

    def _beside(self, centre, one, other, side):
        """The point of the line as far from the centre as one point is from the other; the side is 1 or -1."""
        return self.step("meet", self._axis(), self.step("circle", centre, one, other), (side + 1) // 2)

    def _moved(self, point, number, side):
        """The point as far from another one as the number says, to the side that its sign says, times the side."""
        return self._beside(point, 0, self.known[number], side * self.field.sign(number))

    def _integer(self, n):
        """The point of an integer, by doubles and by 1 more."""
        if whole_element(n) not in self.known:
            if n < 0:
                found = self._beside(0, 0, self._integer(-n), -1)
            elif n % 2 == 1:
                found = self._beside(self._integer(n - 1), 0, 1, 1)
            else:
                half = self._integer(n // 2)
                found = self._beside(half, 0, half, 1)
            self.known[whole_element(n)] = found
        return self.known[whole_element(n)]

    def _upright(self, point):
        """The upright line through a point of the line, by circles with the radius 5 around points 4 away from it."""
        four, five = self._integer(4), self._integer(5)
        left, right = [self._beside(point, 0, four, side) for side in (-1, 1)]
        one, other = self.step("circle", left, 0, five), self.step("circle", right, 0, five)
        return self.step("line", self.step("meet", one, other, 0), self.step("meet", one, other, 1))

    def _above(self, point, number):
        """The point above a point of the line, as high as a number that is not 0 is far from 0."""
        circle = self.step("circle", point, 0, self.known[number])
        return self.step("meet", self._upright(point), circle, 1)

    def _product(self, whole, parts):
        """The line through 0 and (1, b) goes through (a, a b). Signs are left for the last step."""
        one, other = parts
        slope = self.step("line", 0, self._above(1, other))
        point = self.known[one]
        high = self.step("meet", slope, self._upright(point), 0)
        return self._beside(0, point, high, self.field.sign(whole))

    def _quotient(self, whole, parts):
        """The line through 0 and (b, a) goes through (1, a / b). Signs are left for the last step."""
        one, other = parts
        slope = self.step("line", 0, self._above(self.known[other], one))
        high = self.step("meet", slope, self._upright(1), 0)
        return self._beside(0, 1, high, self.field.sign(whole))

    def _root(self, square):
        """The circle around a - 1 with the radius a + 1 goes through (0, 2 r), where r is the root of a.

        The line from there to 2 goes through (1, r).
        """
        point = self.known[square]
        less, more = [self._beside(point, 0, 1, side) for side in (-1, 1)]
        circle = self.step("circle", less, 0, more)
        twice = self.step("meet", self._upright(0), circle, 1)
        high = self.step("meet", self.step("line", twice, self._integer(2)), self._upright(1), 0)
        return self._beside(0, 1, high, 1)
