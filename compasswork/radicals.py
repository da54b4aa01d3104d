"""Formulas for the real roots of polynomials that are no products, by square roots alone."""

from compasswork.factors import depressed, resolvent_roots
from compasswork.formulas import value


def has_formulas(least):
    """Whether the real roots of a least polynomial of degree 1 to 4 have formulas."""
    if len(least) == 5:
        return len(resolvent_roots(least)) > 0
    return len(least) != 4


def root_formulas(least):
    """Formulas for the real roots of a least polynomial whose roots have formulas, of which one is real."""
    if len(least) == 2:
        return [_divided(_whole(-least[0]), least[1])]
    if len(least) == 3:
        return _roots_of_degree_2(least)
    return _roots_of_degree_4(least)


def _whole(n):
    return "number", n


def _divided(formula, n):
    if n == 1:
        return formula
    return "div", formula, _whole(n)


def _less(formula, n):
    if n == 0:
        return formula
    return "sub", formula, _whole(n)


def _both(square):
    """Formulas for the two numbers with the square."""
    return [("root", square), ("neg", ("root", square))]


def _roots_of_degree_2(least):
    c, b, a = least
    return [_divided(_less(side, b), 2 * a) for side in _both(_whole(b * b - 4 * a * c))]


def _roots_of_degree_4(least):
    """The polynomial is worked with in z, as compasswork.factors tells."""
    p, q, r = depressed(least)
    # As there is a real root, no rational root of the resolvent is below 0.
    u = resolvent_roots(least)[-1]
    roots = _roots_of_squares(p, r) if u == 0 else _roots_by_halves(p, q, u)
    return [_divided(_less(z, least[3]), 4 * least[4]) for z in roots]


def _roots_of_squares(p, r):
    """The real numbers for which z ** 4 + p z ** 2 + r is 0."""
    found = []
    for side in _both(_whole(p * p - 4 * r)):
        found.extend(_real_roots(_divided(_less(side, p), 2)))
    return found


def _roots_by_halves(p, q, u):
    """The real numbers for which z ** 4 + p z ** 2 + q z + r is 0, by its factors z ** 2 + s z + m.

    Both roots of u, which is above 0, can be s; then 4 m is 2 (p + u - q / s).
    """
    found = []
    for s in _both(_whole(u)):
        inner = _less(("div", _whole(2 * q), s), u + 2 * p)
        found.extend([_divided(("sub", side, s), 2) for side in _real_roots(inner)])
    return found


def _real_roots(square):
    """Formulas for the two numbers with the square, or none if it is below 0."""
    if value(square).sign() < 0:
        return []
    return _both(square)
