"""Numbers: exact real numbers that come from integers by the four operations and square roots."""

from compasswork.bounds import apart, floor_of, place_of, sign_of
from compasswork.errors import NegativeRoot, ZeroDivisor
from compasswork.joining import root_in
from compasswork.reducing import MOST_GENERATORS, least_field, least_polynomial, together
from compasswork.squares import adjoined
from compasswork.towers import element_difference, element_product, element_quotient, element_sum, lowest
from compasswork.towers import times, trimmed


class Number:
    """A number is an element of a tower (compasswork.towers) without generators that the element does not need."""

    def __init__(self, n, d=1):
        if d == 0:
            raise ZeroDivisor()
        self.tower = ()
        self.element = lowest((n,), d)

    def __add__(self, other):
        if not isinstance(other, Number):
            return NotImplemented
        tower, one, second = _both(self, other)
        return number_in(tower, element_sum(one, second))

    def __sub__(self, other):
        if not isinstance(other, Number):
            return NotImplemented
        tower, one, second = _both(self, other)
        return number_in(tower, element_difference(one, second))

    def __mul__(self, other):
        if not isinstance(other, Number):
            return NotImplemented
        tower, one, second = _both(self, other)
        return number_in(tower, element_product(tower, one, second))

    def __neg__(self):
        vector, scale = self.element
        return number_in(self.tower, (times(vector, -1), scale))

    def __eq__(self, other):
        return isinstance(other, Number) and _order(self, other) == 0

    def below(self, other):
        """Whether the number is less than the other one."""
        return _order(self, other) < 0

    def over(self, other):
        """The quotient of the number and the other one."""
        if other.sign() == 0:
            raise ZeroDivisor()
        tower, one, second = _both(self, other)
        return number_in(tower, element_quotient(tower, one, second))

    def root(self):
        """The number from 0 on whose square is the number."""
        if self.sign() < 0:
            raise NegativeRoot()
        tower, square = self.tower, self.element
        found = root_in(tower, square)
        if found is None and len(tower) >= MOST_GENERATORS:
            tower, square = least_field(tower, square)
        if found is None:
            tower, found = adjoined(tower, square)
        return number_in(tower, found)

    def sign(self):
        """-1, 0 or 1."""
        return sign_of(self.tower, self.element[0])

    def floor(self):
        """The greatest integer that is not above the number."""
        return floor_of(self.tower, self.element)

    def polynomial(self):
        """The least polynomial, as a tuple of integers, the constant first."""
        return least_polynomial(self.tower, self.element)

    def degree(self):
        return len(self.polynomial()) - 1

    def place(self):
        """How many real roots of the polynomial are below the number."""
        tower, element = least_field(self.tower, self.element)
        return place_of(tower, element[0])

    def rational(self):
        """The pair (n, d) in lowest terms, d from 1 on, or None if the number is not rational."""
        vector, scale = self.element
        if len(vector) > 1:
            return None
        return vector[0], scale


def number_in(tower, element):
    """The number that the element is."""
    small, inside = trimmed(tower, element)
    number = Number(0)
    number.tower = small
    number.element = inside
    return number


def _both(one, other):
    """Two numbers in one tower: the tower and both elements."""
    return together((one.tower, one.element), (other.tower, other.element))


def _order(one, other):
    """The sign of the difference of two numbers."""
    if one.tower != other.tower:
        found = apart((one.tower, one.element), (other.tower, other.element))
        if found != 0:
            return found
    tower, first, second = _both(one, other)
    return sign_of(tower, element_difference(first, second)[0])
