"""Factors of polynomials of degree 1 to 4 that are no products themselves, and what tells the roots of degree 4.

A polynomial (c0, c1, c2, c3, c4) is worked with as z ** 4 + p z ** 2 + q z + r, where z is 4 c4 x + c3, so that p, q
and r are integers. Its resolvent then is the one of the document, with u times (4 c4) ** 2.
"""

from math import isqrt

from compasswork.polynomials import primitive, quotient, rational_roots, with_single_roots


def factors(polynomial):
    """The different factors that are no products, as least polynomials of their roots."""
    single = primitive(with_single_roots(polynomial))
    rest = single
    found = []
    for n, d in rational_roots(single):
        found.append((-n, d))
        rest = quotient(rest, (-n, d))
    # Without a rational root, only a product of degree 4 is left: of two of degree 2.
    if len(rest) == 5:
        return found + _halves(rest)
    if len(rest) > 1:
        found.append(rest)
    return found


def depressed(polynomial):
    """The integers p, q and r of a polynomial of degree 4."""
    c0, c1, c2, c3, c4 = polynomial
    p = 16 * c4 * c2 - 6 * c3 * c3
    q = 8 * (8 * c4 * c4 * c1 - 4 * c4 * c3 * c2 + c3 * c3 * c3)
    r = 256 * c4 * c4 * c4 * c0 - 64 * c4 * c4 * c3 * c1 + 16 * c4 * c3 * c3 * c2 - 3 * c3 * c3 * c3 * c3
    return p, q, r


def resolvent_roots(polynomial):
    """The rational roots of the resolvent of a polynomial of degree 4, ascending. All of them are integers."""
    p, q, r = depressed(polynomial)
    return [n for n, _ in rational_roots((-q * q, p * p - 4 * r, 2 * p, 1))]


def _halves(polynomial):
    """The two factors of degree 2, or the polynomial itself if it is no such product."""
    p, q, r = depressed(polynomial)
    # A product (z ** 2 + s z + m) (z ** 2 - s z + n) of integers has a resolvent with the root s ** 2.
    for square in resolvent_roots(polynomial):
        s = _exact_root(square)
        if s is None:
            continue
        # This is what m and n are apart.
        away = _exact_root(p * p - 4 * r) if s == 0 else q // s
        if away is not None:
            total = p + square
            return [_half(polynomial, -s, (total + away) // 2), _half(polynomial, s, (total - away) // 2)]
    return [polynomial]


def _exact_root(n):
    """The integer from 0 on whose square is n, or None if there is none."""
    if n < 0:
        return None
    root = isqrt(n)
    return root if root * root == n else None


def _half(polynomial, s, m):
    """The polynomial in x that z ** 2 + s z + m is."""
    c3, c4 = polynomial[3:]
    return primitive((c3 * c3 + s * c3 + m, 4 * c4 * (2 * c3 + s), 16 * c4 * c4))
