"""Linear equations of integers: combinations, ranks, determinants and kernels."""

from math import gcd, lcm


def in_lowest(row):
    """The row of integers divided by all that they have in common."""
    whole = 0
    for number in row:
        whole = gcd(whole, number)
    if whole <= 1:
        return row
    return [number // whole for number in row]


def cleared(row, pivot, at):
    """The row plus so much of the pivot row, which is not 0 at this place, that it becomes 0 there."""
    if row[at] == 0:
        return row
    return in_lowest([number * pivot[at] - other * row[at] for number, other in zip(row, pivot)])


def reduced(rows, width):
    """Rows with the same combinations, and the places at which each one alone is not 0, ascending.

    Of these places each one is the first that is not a combination of the places before it.
    """
    rest = [in_lowest(list(row)) for row in rows]
    found = []
    places = []
    for at in range(width):
        pivots = [row for row in rest if row[at] != 0]
        if pivots:
            pivot = pivots[0]
            rest.remove(pivot)
            rest = [cleared(row, pivot, at) for row in rest]
            found = [cleared(row, pivot, at) for row in found] + [pivot]
            places.append(at)
    return found, places


def fraction(numerator, denominator):
    """The pair of a fraction in lowest terms, its denominator above 0."""
    whole = gcd(numerator, denominator)
    if denominator < 0:
        whole = -whole
    return numerator // whole, denominator // whole


def solved(rows, row):
    """The fraction row by which row is a combination of the independent rows, None if it is none."""
    many = len(rows)
    equations = [[other[at] for other in rows] + [number] for at, number in enumerate(row)]
    found, places = reduced(equations, many + 1)
    if many in places:
        return None
    return tuple([fraction(equation[many], equation[at]) for equation, at in zip(found, places)])


def rank_of(rows):
    """The greatest number of independent rows among them."""
    if not rows:
        return 0
    return len(reduced(rows, len(rows[0]))[1])


def determinant(rows):
    """The determinant of a square of integers."""
    rest = [list(row) for row in rows]
    whole = 1
    sign = 1
    while rest:
        at = first_not_zero([row[0] for row in rest])
        if at is None:
            return 0
        # Each entry below is a determinant of a part of the square times an earlier pivot, so nothing is left over.
        if at % 2 == 1:
            sign = -sign
        pivot = rest.pop(at)
        rest = [[(pivot[0] * x - row[0] * y) // whole for x, y in zip(row[1:], pivot[1:])] for row in rest]
        whole = pivot[0]
    return sign * whole


def first_not_zero(numbers):
    """The index of the first number that is not 0, None if all are."""
    for at, number in enumerate(numbers):
        if number != 0:
            return at
    return None


def kernel(rows, width):
    """For each free place the row of integers that is told by it and makes the products with all rows 0."""
    found, places = reduced(rows, width)
    return tuple([kernel_row(found, places, free, width) for free in range(width) if free not in places])


def kernel_row(found, places, free, width):
    """The row of the kernel for a free place; each found row tells the entry at its own place."""
    told = [(at, fraction(-row[free], row[at])) for row, at in zip(found, places)]
    whole = 1
    for _, share in told:
        whole = lcm(whole, share[1])
    entries = [0] * width
    entries[free] = whole
    for at, share in told:
        entries[at] = share[0] * (whole // share[1])
    return tuple(entries)
