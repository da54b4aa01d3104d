"""Regular polygons: formulas for their corners."""

from compasswork.formulas import read_formula

# The formulas from which all others come by twice as many corners, but for that of 17.
CORNERS = {
    3: "div -1 2",
    4: "0",
    5: "div sub root 5 1 4",
    15: "div add add 1 root 5 root sub 30 mul 6 root 5 8",
}


def corner(n):
    """A formula for cos(2 pi / n), for n from 3 to 50, or None if there is none."""
    many = n
    doublings = 0
    while many > 4 and many % 2 == 0:
        many = many // 2
        doublings += 1
    text = _corner_of_17() if many == 17 else CORNERS.get(many)
    if text is None:
        return None
    formula = read_formula(text)
    for _ in range(doublings):
        formula = _of_half_the_angle(formula)
    return formula


def _corner_of_17():
    """The formula that Gauss found."""
    one = "root sub 34 mul 2 root 17"
    other = "root add 34 mul 2 root 17"
    inner = f"root sub sub add 17 mul 3 root 17 {one} mul 2 {other}"
    return f"div sub add add root 17 {one} mul 2 {inner} 1 16"


def _of_half_the_angle(cosine):
    """The cosine of half an angle of at most half a turn, so it is from 0 on."""
    return "root", ("div", ("add", ("number", 1), cosine), ("number", 2))
