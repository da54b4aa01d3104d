"""Bounds: what a number of a tower (compasswork.towers) is about.

A bound is a pair (low, high) of integers, in units of 2 ** -bits, between which a number lies.
A basis is the list of the bounds of the products of roots, in the order of a vector.
"""

from math import isqrt

from compasswork.towers import times

FIRST_BITS = 64


def bound(vector, basis):
    """The bound of a vector, in the units of the basis."""
    low = high = 0
    for n, (least, most) in zip(vector, basis):
        if n > 0:
            low = low + n * least
            high = high + n * most
        elif n < 0:
            low = low + n * most
            high = high + n * least
    return low, high


def _unit(bits):
    return [(1 << bits, 1 << bits)]


def _root(square, bits):
    low, high = square
    return isqrt(max(low, 0) << bits), isqrt(high << bits) + 1


def _scaled(one, other, bits):
    """The bound of the product of two numbers."""
    products = [m * n for m in one for n in other]
    return min(products) >> bits, -(-max(products) >> bits)


def basis_of(tower, bits):
    found = _unit(bits)
    for generator in tower:
        # The generator is above 0, even where its bound is not.
        root = _root(bound(generator, found), bits)
        found = found + [_scaled(part, root, bits) for part in found]
    return found


def sign_of(tower, vector):
    """-1, 0 or 1. A vector that is not 0 is a number that is not 0, so enough bits tell its sign."""
    if not any(vector):
        return 0
    bits = FIRST_BITS
    while True:
        low, high = bound(vector, basis_of(tower, bits))
        if low > 0:
            return 1
        if high < 0:
            return -1
        bits = 2 * bits


def positive(tower, element):
    """The element or its negative, whichever is from 0 on."""
    vector, scale = element
    if sign_of(tower, vector) < 0:
        return times(vector, -1), scale
    return element


def floor_of(tower, element):
    vector, scale = element
    # Bits never tell the floor of an integer, but they do for all numbers that are not rational.
    if not any(vector[1:]):
        return vector[0] // scale
    bits = FIRST_BITS
    while True:
        low, high = bound(vector, basis_of(tower, bits))
        unit = scale << bits
        if low // unit == high // unit:
            return low // unit
        bits = 2 * bits


def apart(one, other):
    """The sign of the difference of two pairs of tower and element, or 0 if few bits do not tell it."""
    (tower, (vector, scale)), (second_tower, (second, divider)) = one, other
    for bits in (FIRST_BITS, 4 * FIRST_BITS, 16 * FIRST_BITS):
        low, high = bound(vector, basis_of(tower, bits))
        least, most = bound(second, basis_of(second_tower, bits))
        if low * divider > most * scale:
            return 1
        if high * divider < least * scale:
            return -1
    return 0


def _bases(tower, bits):
    """The bases of all real fields that are the tower's but for the signs of the roots, its own first.

    None if the bits do not tell which of them are real.
    """
    found = [_unit(bits)]
    for generator in tower:
        longer = []
        for one in found:
            low, high = bound(generator, one)
            if low <= 0 <= high:
                return None
            if low > 0:
                least, most = _root((low, high), bits)
                longer.append(one + [_scaled(part, (least, most), bits) for part in one])
                longer.append(one + [_scaled(part, (-most, -least), bits) for part in one])
        found = longer
    return found


def _count_below_first(found):
    """How many of the bounds are below the first; None if one of them overlaps it."""
    first_low, first_high = found[0]
    count = 0
    for low, high in found[1:]:
        if high < first_low:
            count += 1
        elif low <= first_high:
            return None
    return count


def place_of(tower, vector):
    """The place of a vector that lies in no smaller field than the tower's."""
    bits = FIRST_BITS
    while True:
        found = _bases(tower, bits)
        count = None
        if found is not None:
            # The real roots of its polynomial are its values in the real fields that are like the tower's.
            count = _count_below_first([bound(vector, one) for one in found])
        if count is not None:
            return count
        bits = 2 * bits
