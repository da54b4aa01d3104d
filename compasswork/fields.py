"""A field in which many numbers are worked with.

To bring two numbers into one tower takes far longer than to add or to multiply them there. So whoever works with
many numbers takes a field, whose one tower (compasswork.towers) grows as roots come up.
"""

from compasswork.bounds import sign_of
from compasswork.joining import root_in, widened
from compasswork.numbers import number_in
from compasswork.reducing import all_together
from compasswork.squares import adjoined
from compasswork.towers import element_difference, element_product, element_sum, inverse, lowest, times


class Field:
    """Its elements go over the first generators of its tower, as few as they can.

    So equal elements are equal tuples, and stay so when the tower grows.
    """

    def __init__(self):
        self.tower = ()
        self.known_roots = {}

    def holding(self, numbers):
        """The numbers as elements. To be called only while there are no others."""
        self.tower, found = all_together([(number.tower, number.element) for number in numbers])
        return [_shortest(element) for element in found]

    def number(self, element):
        """The element as a number."""
        return number_in(self.tower[:len(element[0]).bit_length() - 1], element)

    def plus(self, one, other):
        one, other = _alike(one, other)
        return _shortest(element_sum(one, other))

    def minus(self, one, other):
        one, other = _alike(one, other)
        return _shortest(element_difference(one, other))

    def product(self, one, other):
        one, other = _alike(one, other)
        return _shortest(element_product(self.tower, one, other))

    def quotient(self, one, other):
        """One element divided by another one that is not 0."""
        return self.product(one, self.inverted(other))

    def inverted(self, element):
        """1 divided by an element that is not 0."""
        vector, scale = element
        turned, divider = inverse(self.tower, vector)
        return _shortest(lowest(times(turned, scale), divider))

    def negative(self, element):
        vector, scale = element
        return times(vector, -1), scale

    def sign(self, element):
        """-1, 0 or 1."""
        return sign_of(self.tower, element[0])

    def root(self, square):
        """The root from 0 on of an element from 0 on."""
        if square not in self.known_roots:
            self.known_roots[square] = self._found_root(square)
        return self.known_roots[square]

    def _found_root(self, square):
        whole = widened(square, 1 << len(self.tower))
        root = root_in(self.tower, whole)
        if root is None:
            self.tower, root = adjoined(self.tower, whole)
        return _shortest(root)


def whole_element(n):
    """The element of any field that is the integer n."""
    return (n,), 1


def _alike(one, other):
    """Two elements over as many generators."""
    size = max(len(one[0]), len(other[0]))
    return widened(one, size), widened(other, size)


def _shortest(element):
    vector, scale = element
    while len(vector) > 1 and not any(vector[len(vector) // 2:]):
        vector = vector[:len(vector) // 2]
    return vector, scale
