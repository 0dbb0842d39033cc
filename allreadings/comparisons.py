"""The rows of comparisons, and LINEARS of them."""


def rows_of_comparison(left, sign, right, unknowns):
    """The rows of a comparison; unknowns has the name and the place of each unknown, in the sequence of the numbers."""
    rows = []
    if sign in ("<=", "="):
        rows.append(_row_of_forms(left, right, unknowns))
    if sign in (">=", "="):
        rows.append(_row_of_forms(right, left, unknowns))
    return rows


def _row_of_forms(left, right, unknowns):
    """The row that says that left is at most right."""
    numbers = summed_form(left)
    others = summed_form(right)
    most = others.get(("", 0), 0) - numbers.get(("", 0), 0)
    return (tuple([numbers.get(unknown, 0) - others.get(unknown, 0) for unknown in unknowns]), most)


def summed_form(form):
    """The sum of the numbers of each unknown, by its name and place, and of the numbers alone by ("", 0)."""
    found = {}
    for number, name, place in form:
        found[(name, place)] = found.get((name, place), 0) + number
    return found


def linear_of_comparison(left, sign, right, names, moments):
    """The LINEAR of a question."""
    many = len(names)
    unknowns = [(name, moment) for moment in range(moments) for name in names]
    numbers, most = rows_of_comparison(left, sign, right, unknowns)[0]
    parts = [(moment, numbers[many * moment:many * moment + many]) for moment in range(moments)]
    return ([part for part in parts if any(part[1])], most)
