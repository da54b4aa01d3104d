"""Which roots of polynomials can be drawn, told by a formula or by a paper."""

from compasswork.errors import NoRoot
from compasswork.factors import factors
from compasswork.formulas import value
from compasswork.numbers import Number
from compasswork.polynomials import divisor, root_span, roots_below
from compasswork.radicals import has_formulas, root_formulas


def drawn_root(polynomial, place):
    """("formula", f) with a formula for the real root with the place, or ("paper", least) if it has no formula."""
    span = root_span(polynomial, place)
    if span is None:
        raise NoRoot()
    least = [one for one in factors(polynomial) if _has_root(one, span)][0]
    if not has_formulas(least):
        return "paper", least
    return "formula", [one for one in root_formulas(least) if _inside(value(one), span)][0]


def paper_holds(polynomial, place, paper):
    """Whether the paper is the least polynomial of the real root with the place, and tells that it has no formula."""
    if len(divisor(polynomial, paper)) < len(paper) or factors(paper) != [paper]:
        return False
    span = root_span(polynomial, place)
    return span is not None and _has_root(paper, span) and not has_formulas(paper)


def _has_root(polynomial, span):
    """Whether one of the polynomial's real roots is in the span (compasswork.polynomials)."""
    low, high, d = span
    return roots_below(polynomial, low, d) < roots_below(polynomial, high, d)


def _inside(number, span):
    low, high, d = span
    return number.below(Number(high, d)) and not number.below(Number(low, d))
