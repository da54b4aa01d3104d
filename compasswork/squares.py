"""Squares in a tower (compasswork.towers): their roots, and the roots that a tower has of smaller fields."""

from math import gcd, isqrt

from compasswork.towers import element_product, from_halves, inverse, last_generator, lowest, multiplied
from compasswork.towers import norm, padded, plus, times

# Squares of greater primes are only found if nothing else is left.
MOST_TRIED = 100


def square_root(tower, vector):
    """An element whose square is the vector, or None if there is none."""
    half = len(vector) // 2
    if half == 0:
        return _integer_root(vector[0])
    if not any(vector[half:]):
        return _root_without_last(tower, vector)
    # (a + b root) ** 2 is low + high root exactly if a ** 2 + b ** 2 generator is low and 2 a b is high. Then
    # the norm is the square of a ** 2 - b ** 2 generator, and a ** 2 is the mean of low and plus or minus that.
    for twice, scale in _means(tower, vector):
        found = square_root(tower, twice)
        if found is not None:
            first = lowest(found[0], found[1] * 2 * scale)
            turned, divider = inverse(tower, found[0])
            second = multiplied(tower, vector[half:], turned)
            return from_halves(first, lowest(times(second, scale * found[1]), divider))
    return None


def _integer_root(n):
    if n < 0:
        return None
    root = isqrt(n)
    if root * root == n:
        return (root,), 1
    return None


def _root_without_last(tower, vector):
    """The square root of a vector that has no share of the last root: a or b root, with a and b before it."""
    low = vector[:len(vector) // 2]
    found = square_root(tower, low)
    if found is not None:
        return padded(found[0], len(vector)), found[1]
    generator = last_generator(tower, vector)
    found = square_root(tower, multiplied(tower, low, generator))
    if found is None:
        return None
    zero = ((0,) * len(low), 1)
    return from_halves(zero, element_product(tower, found, inverse(tower, generator)))


def _means(tower, vector):
    """The means of the first half and the roots of the norm, as pairs (mean * (2 * scale) ** 2, scale).

    There are none if the norm is no square.
    """
    found = square_root(tower, norm(tower, vector))
    if found is None:
        return []
    root, scale = found
    low = times(vector[:len(vector) // 2], scale)
    return [(times(plus(low, times(root, side)), 2 * scale), scale) for side in (1, -1)]


def adjoined(tower, square):
    """The tower with the root of an element that is above 0 and no square, and this root."""
    vector, scale = square
    whole = times(vector, scale)
    common = 0
    for n in whole:
        common = gcd(common, n)
    known = _square_part(common)
    generator = tuple([n // (known * known) for n in whole])
    root = (0,) * len(vector) + padded((known,), len(vector))
    return tower + (generator,), lowest(root, scale)


def _square_part(n):
    """A number whose square divides n. Not always the greatest: to find that is too hard for many digits."""
    found = 1
    for k in range(2, MOST_TRIED):
        while n % (k * k) == 0:
            n = n // (k * k)
            found = found * k
        if n % k == 0:
            n = n // k
    root = isqrt(n)
    if root * root == n:
        return found * root
    return found


def new_squares(tower, base):
    """Vectors over the first generators of a tower, as many as base says, that are squares in the tower.

    Each vector with this property is the product of a square and of some of these, in exactly one way.
    """
    found = []
    for generator in tower[base:]:
        partner = _partner(tower, 1 << base, generator)
        if partner is not None:
            found.append(partner)
    return found


def _partner(tower, size, vector):
    """A vector of the size whose product with the vector is a square, or None if there is none."""
    if len(vector) == size:
        return vector
    half = len(vector) // 2
    if any(vector[half:]):
        candidates = [pair[0] for pair in _means(tower, vector)]
    else:
        low = vector[:half]
        candidates = [low, multiplied(tower, low, last_generator(tower, vector))]
    for candidate in candidates:
        found = _partner(tower, size, candidate)
        if found is not None:
            return found
    return None
