"""The compiler: drawings of formulas."""

from compasswork.fields import Field
from compasswork.formulas import worked_out
from compasswork.plans import Plan


def drawing_of(formula):
    """A drawing whose last step gives the point (x, 0), where x is the value of the formula."""
    field = Field()
    told = worked_out(field, formula)
    plan = Plan(field)
    for word, whole, parts in told:
        plan.draws(word, whole, parts)
    return plan.ending(told[-1][1])
