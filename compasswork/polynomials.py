"""Polynomials with integers: common divisors and real roots.

A polynomial is a tuple of integers, the constant first, the last one not 0. The empty tuple is the polynomial 0.
"""

from math import gcd


def primitive(polynomial):
    """The multiple with integers without a common divisor above 1, the last one above 0."""
    common = 0
    for n in polynomial:
        common = gcd(common, n)
    if polynomial[-1] < 0:
        common = -common
    return tuple([n // common for n in polynomial])


def _derivative(polynomial):
    return tuple([k * n for k, n in enumerate(polynomial)][1:])


def _without_zeros(terms):
    count = len(terms)
    while count > 0 and terms[count - 1] == 0:
        count = count - 1
    return tuple(terms[:count])


def _remainder(one, other):
    """The remainder of a division, times some integer above 0."""
    rest = one
    while len(rest) >= len(other):
        common = gcd(rest[-1], other[-1])
        # Only factors above 0 at the rest, so that a chain of Sturm keeps its signs.
        factor = abs(other[-1]) // common
        taken = rest[-1] * factor // other[-1]
        lower = [0] * (len(rest) - len(other)) + [n * taken for n in other]
        rest = _without_zeros([m * factor - n for m, n in zip(rest, lower)])
    return rest


def quotient(one, other):
    """The quotient of a division that leaves no rest, by a polynomial whose integers have no common divisor."""
    rest = one
    found = []
    for k in reversed(range(len(one) - len(other) + 1)):
        taken = rest[k + len(other) - 1] // other[-1]
        lower = [0] * k + [n * taken for n in other]
        rest = [m - n for m, n in zip(rest, lower)]
        found.append(taken)
    return tuple(found[::-1])


def divisor(one, other):
    """The greatest common divisor, with integers without a common divisor above 1, the last one above 0."""
    while other:
        rest = _remainder(one, other)
        one = other
        other = primitive(rest) if rest else rest
    return primitive(one)


def with_single_roots(polynomial):
    """The polynomial with the same roots, each of them once."""
    return quotient(polynomial, divisor(polynomial, _derivative(polynomial)))


def _chain(polynomial):
    """The chain of Sturm of the polynomial with the same roots, each of them once."""
    single = with_single_roots(polynomial)
    found = [single]
    following = _derivative(single)
    while following:
        before = found[-1]
        found.append(following)
        rest = _remainder(before, following)
        common = 0
        for n in rest:
            common = gcd(common, n)
        following = tuple([-n // common for n in rest])
    return found


def _value(polynomial, n, d):
    """The value at n / d, times a power of d; d is above 0."""
    total = 0
    power = 1
    for term in reversed(polynomial):
        total = total * n + term * power
        power = power * d
    return total


def _changes(values):
    """How often the sign changes from one value to the next, where zeros do not count."""
    count = 0
    last = 0
    for n in values:
        if n < 0 < last or last < 0 < n:
            count += 1
        if n != 0:
            last = n
    return count


def _changes_at(chain, n, d):
    return _changes([_value(polynomial, n, d) for polynomial in chain])


def _changes_below_all(chain):
    """The changes of sign left of all roots, where the last terms with their powers tell the signs."""
    return _changes([polynomial[-1] * (1 - 2 * ((len(polynomial) - 1) % 2)) for polynomial in chain])


def _count_below(chain, n, d):
    # A chain of Sturm counts a root at n / d itself too.
    count = _changes_below_all(chain) - _changes_at(chain, n, d)
    if _value(chain[0], n, d) == 0:
        return count - 1
    return count


def root_count(polynomial):
    """How many different real roots the polynomial has."""
    chain = _chain(polynomial)
    return _changes_below_all(chain) - _changes([one[-1] for one in chain])


def roots_below(polynomial, n, d):
    """How many different real roots are below n / d, for d from 1 on."""
    return _count_below(_chain(polynomial), n, d)


def root_span(polynomial, place):
    """Integers (low, high, d): from low / d on and below high / d is no real root but the one with that place.

    None if no real root has that place.
    """
    chain = _chain(polynomial)
    if not 0 <= place < root_count(polynomial):
        return None
    # All roots are nearer to 0 than this.
    high = 1 + max([abs(n) for n in polynomial])
    low, d = -high, 1
    while _count_below(chain, low, d) < place or _count_below(chain, high, d) > place + 1:
        low, high, d = 2 * low, 2 * high, 2 * d
        middle = (low + high) // 2
        if _count_below(chain, middle, d) > place:
            high = middle
        else:
            low = middle
    return low, high, d


def rational_roots(polynomial):
    """The rational roots, ascending, as pairs (n, d) in lowest terms."""
    chain = _chain(polynomial)
    single = chain[0]
    # The denominator of a rational root divides the last integer, so the root times that is an integer.
    d = abs(single[-1])
    most = d + max([abs(n) for n in single])
    spans = [(-most - 1, _changes_at(chain, -most - 1, d), most, _changes_at(chain, most, d))]
    found = []
    while spans:
        low, low_changes, high, high_changes = spans.pop()
        if low_changes == high_changes:
            continue
        if high - low > 1:
            middle = (low + high) // 2
            changes = _changes_at(chain, middle, d)
            spans.append((middle, changes, high, high_changes))
            spans.append((low, low_changes, middle, changes))
        elif _value(single, high, d) == 0:
            common = gcd(high, d)
            found.append((high // common, d // common))
    return tuple(found)
