"""Towers: fields of real numbers, made from the rational numbers by adjoining square roots.

A tower is a tuple of generators. Each generator is a number above 0 that is no square in the field of the
generators before it; its root above 0 is adjoined. It is written as a vector over the generators before it.

A vector over k generators is a tuple of 2 ** k integers. The integer with the index j belongs to the product
of the roots whose bits stand in j, so the first half of a vector has no share of the last root.

An element is a pair (vector, scale): the vector divided by the scale, an integer from 1 on, in lowest terms.
As no generator is a square, each number of the field is exactly one element.
"""

from math import gcd


def plus(one, other):
    return tuple([m + n for m, n in zip(one, other)])


def minus(one, other):
    return tuple([m - n for m, n in zip(one, other)])


def times(vector, factor):
    return tuple([n * factor for n in vector])


def padded(vector, size):
    return vector + (0,) * (size - len(vector))


def last_generator(tower, vector):
    """The generator whose root the second half of the vector has."""
    return tower[len(vector).bit_length() - 2]


def multiplied(tower, one, other):
    """The product of two vectors of one length."""
    half = len(one) // 2
    if half == 0:
        return (one[0] * other[0],)
    if half == 1:
        return (one[0] * other[0] + tower[0][0] * one[1] * other[1], one[0] * other[1] + one[1] * other[0])
    low, high = one[:half], one[half:]
    if not any(high):
        return multiplied(tower, low, other[:half]) + multiplied(tower, low, other[half:])
    if not any(other[half:]):
        return multiplied(tower, low, other[:half]) + multiplied(tower, high, other[:half])
    lows = multiplied(tower, low, other[:half])
    highs = multiplied(tower, high, other[half:])
    # Three products of halves instead of four: the mixed ones come from the product of the sums.
    mixed = multiplied(tower, plus(low, high), plus(other[:half], other[half:]))
    raised = by_generator(tower, last_generator(tower, one), highs)
    return plus(lows, raised) + minus(minus(mixed, lows), highs)


def by_generator(tower, generator, vector):
    if any(generator[1:]):
        return multiplied(tower, generator, vector)
    return times(vector, generator[0])


def norm(tower, vector):
    """The product of low + high root and low - high root, over one generator less."""
    half = len(vector) // 2
    low, high = vector[:half], vector[half:]
    squared = multiplied(tower, high, high)
    return minus(multiplied(tower, low, low), by_generator(tower, last_generator(tower, vector), squared))


def lowest(vector, scale):
    """The element vector / scale, in lowest terms."""
    common = scale
    for n in vector:
        if common == 1:
            break
        common = gcd(common, n)
    if scale < 0:
        common = -abs(common)
    if common == 1:
        return vector, scale
    return tuple([n // common for n in vector]), scale // common


def inverse(tower, vector):
    """The element 1 / vector, for a vector that is not 0."""
    half = len(vector) // 2
    if half == 0:
        return lowest((1,), vector[0])
    low, high = vector[:half], vector[half:]
    if not any(high):
        turned, scale = inverse(tower, low)
        return padded(turned, len(vector)), scale
    turned, scale = inverse(tower, norm(tower, vector))
    return lowest(multiplied(tower, low, turned) + multiplied(tower, times(high, -1), turned), scale)


def element_sum(one, other):
    (vector, scale), (second, divider) = one, other
    return lowest(plus(times(vector, divider), times(second, scale)), scale * divider)


def element_difference(one, other):
    (vector, scale), (second, divider) = one, other
    return lowest(minus(times(vector, divider), times(second, scale)), scale * divider)


def element_product(tower, one, other):
    return lowest(multiplied(tower, one[0], other[0]), one[1] * other[1])


def element_quotient(tower, one, other):
    """One element divided by another one that is not 0."""
    turned, scale = inverse(tower, other[0])
    return lowest(times(multiplied(tower, one[0], turned), other[1]), one[1] * scale)


def from_halves(low, high):
    """The element low + high root, where low and high are elements over one generator less."""
    (first, scale), (second, divider) = low, high
    return lowest(times(first, divider) + times(second, scale), scale * divider)


def trimmed(tower, element):
    """The element in a tower without the generators that it does not need, as a pair of tower and element."""
    vector, scale = element
    needed = _shares(vector)
    for k in reversed(range(len(tower))):
        if needed >> k & 1:
            needed = needed | _shares(tower[k])
    if needed + 1 == len(vector):
        return tower, element
    left = tuple([_chosen(tower[k], needed) for k in range(len(tower)) if needed >> k & 1])
    return left, (_chosen(vector, needed), scale)


def _shares(vector):
    """The bits of the roots that stand in the vector."""
    bits = 0
    for j, n in enumerate(vector):
        if n != 0:
            bits = bits | j
    return bits


def _chosen(vector, needed):
    return tuple([n for j, n in enumerate(vector) if j | needed == needed])
