"""The least field of a number of a tower (compasswork.towers), and its polynomials."""

from compasswork.joining import image_of_element, joined, widened
from compasswork.polynomials import primitive
from compasswork.squares import adjoined, new_squares
from compasswork.towers import by_generator, element_difference, element_product, lowest, minus
from compasswork.towers import multiplied, padded, plus, times

# A field of degree 16 has four generators.
MOST_GENERATORS = 4


def characteristic(tower, vector, base):
    """The product of x - v for all v that the vector becomes by the signs of the roots behind the first ones.

    How many come first, base says; the coefficients are vectors over these, the constant first.
    """
    terms = [times(vector, -1), padded((1,), len(vector))]
    for generator in reversed(tower[base:]):
        half = len(generator)
        lows = _polynomial_square(tower, [term[:half] for term in terms])
        highs = _polynomial_square(tower, [term[half:] for term in terms])
        terms = [minus(low, by_generator(tower, generator, high)) for low, high in zip(lows, highs)]
    return terms


def _polynomial_square(tower, terms):
    zero = (0,) * len(terms[0])
    found = []
    for k in range(2 * len(terms) - 1):
        total = zero
        for i in range(max(0, k + 1 - len(terms)), (k + 1) // 2):
            total = plus(total, times(multiplied(tower, terms[i], terms[k - i]), 2))
        if k % 2 == 0:
            total = plus(total, multiplied(tower, terms[k // 2], terms[k // 2]))
        found.append(total)
    return found


def _polynomial_root(tower, terms):
    """The polynomial whose square is the polynomial, with elements as coefficients, both monic; None without one."""
    count = len(terms)
    if count % 2 == 0:
        return None
    falling = [terms[-1]]
    for k in range(1, count):
        rest = terms[count - 1 - k]
        for i in range(1, min(k, len(falling))):
            if k - i < len(falling):
                rest = element_difference(rest, element_product(tower, falling[i], falling[k - i]))
        if k <= count // 2:
            falling.append(lowest(rest[0], 2 * rest[1]))
        elif any(rest[0]):
            return None
    return falling[::-1]


def _least_terms(tower, vector, base):
    """The monic polynomial of the least degree that is 0 for the vector, over the first generators."""
    terms = [(term, 1) for term in characteristic(tower, vector, base)]
    # The characteristic polynomial is a power of this one, and all degrees are powers of 2.
    while True:
        root = _polynomial_root(tower, terms)
        if root is None:
            return terms
        terms = root


def _degree(tower, element, base):
    return len(_least_terms(tower, element[0], base)) - 1


def least_polynomial(tower, element):
    """The least polynomial of an element, as a tuple of integers."""
    vector, scale = element
    terms = []
    power = 1
    # The polynomial of the vector has integers, and the last is 1. The element is the vector divided by the scale.
    for term, _ in _least_terms(tower, vector, 0):
        terms.append(term[0] * power)
        power = power * scale
    return primitive(terms)


def least_field(tower, element):
    """The element in a tower whose field has only what comes from the element, as a pair of tower and element."""
    degree = _degree(tower, element, 0)
    if degree == 1 << len(tower):
        return tower, element
    base = 0
    while degree > 1:
        tower, element = _with_root_below(tower, element, base, degree)
        base += 1
        degree = degree // 2
    return tower[:base], (element[0][:1 << base], element[1])


def _with_root_below(tower, element, base, degree):
    """The same field and element, with a tower whose generator behind the first ones has its root in the least field.

    The least field has all of the first generators, and the element has the degree over them. A field that comes
    by square roots has a next smaller one at each step, so there is such a generator.
    """
    squares = new_squares(tower, base)
    for choice in range(1, 1 << len(squares)):
        square = padded((1,), 1 << base)
        for k, one in enumerate(squares):
            if choice >> k & 1:
                square = multiplied(tower, square, one)
        start, _ = adjoined(tower[:base], (square, 1))
        rebuilt, images = joined(start, tower, len(tower))
        moved = image_of_element(rebuilt, images, element)
        if _degree(rebuilt, moved, base + 1) < degree:
            return rebuilt, moved
    return tower, element


def together(one, other):
    """Two pairs of tower and element in one tower: the tower and both elements."""
    if one[0] == other[0]:
        return one[0], one[1], other[1]
    found = _in_one_tower(one, other, MOST_GENERATORS)
    if found is None:
        # The towers may have more than the two numbers need.
        small, second = least_field(one[0], one[1]), least_field(other[0], other[1])
        found = _in_one_tower(small, second, len(small[0]) + len(second[0]))
    return found


def _in_one_tower(one, other, most):
    if _rank(one[0]) < _rank(other[0]):
        turned = _in_one_tower(other, one, most)
        if turned is None:
            return None
        return turned[0], turned[2], turned[1]
    found = joined(one[0], other[0], most)
    if found is None:
        return None
    tower, images = found
    return tower, widened(one[1], 1 << len(tower)), image_of_element(tower, images, other[1])


def _rank(tower):
    """A pair that orders towers: the greater one is to be kept, the one with more or with shorter generators."""
    digits = 0
    for generator in tower:
        for n in generator:
            digits = digits + n.bit_length()
    return len(tower), -digits


def all_together(pairs):
    """Pairs of tower and element in one tower: the tower, and the elements."""
    found = _all_in_one_tower(pairs, MOST_GENERATORS)
    if found is None:
        # The towers may have more than the numbers need.
        small = [least_field(tower, element) for tower, element in pairs]
        found = _all_in_one_tower(small, sum([len(tower) for tower, _ in small]))
    return found


def _all_in_one_tower(pairs, most):
    whole = ()
    for tower, _ in pairs:
        if _rank(whole) < _rank(tower):
            whole = tower
    images = {}
    for tower, _ in pairs:
        if tower not in images:
            found = joined(whole, tower, most)
            if found is None:
                return None
            whole, images[tower] = found
    return whole, [image_of_element(whole, images[tower], element) for tower, element in pairs]
