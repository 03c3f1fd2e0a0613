"""Exact determinants and solutions of linear systems (point 16)."""

from math import gcd


def determinant(rows):
    """Return the determinant of a square matrix.

    The rows are cleared without fractions: each division by the pivot before is exact.
    """
    grid = [list(row) for row in rows]
    many = len(grid)
    sign = 1
    before = 1
    for at in range(many):
        found = [k for k in range(at, many) if grid[k][at] != 0]
        if len(found) == 0:
            return 0
        if found[0] != at:
            grid[at], grid[found[0]] = grid[found[0]], grid[at]
            sign = -sign
        top = grid[at]
        for k in range(at + 1, many):
            grid[k] = cleared(top, grid[k], at, before)
        before = top[at]
    return sign * before


def cleared(top, row, at, before):
    """Return the row with a 0 in the column `at`, cleared by the row `top`."""
    return [(top[at] * row[k] - row[at] * top[k]) // before for k in range(len(row))]


def solve(rows, right):
    """Return the only solution as a pair (numerators, denominator), or None."""
    whole = determinant(rows)
    if whole == 0:
        return None
    parts = [determinant(with_column(rows, at, right)) for at in range(len(rows))]
    if whole < 0:
        whole = -whole
        parts = [-part for part in parts]
    numbers = lowest_terms([whole] + parts)
    return (numbers[1:], numbers[0])


def with_column(rows, at, right):
    """Return the rows in which the column `at` is replaced by the numbers of `right`."""
    return [list(row[:at]) + [number] + list(row[at + 1:]) for row, number in zip(rows, right)]


def normal_of(rows, many):
    """Return a row of `many` integers with the growth 0 along each of `many` - 1 rows.

    The integers are the minors of the rows with signs in turn, so all of them are 0 if the rows are dependent.
    """
    minors = [determinant([row[:at] + row[at + 1:] for row in rows]) for at in range(many)]
    return tuple([-minor if at & 1 else minor for at, minor in enumerate(minors)])


def lowest_terms(numbers):
    """Return the tuple of the integers divided by their greatest common divisor."""
    common = 0
    for number in numbers:
        common = gcd(common, number)
    if common == 0:
        return tuple(numbers)
    return tuple([number // common for number in numbers])


def sign_of(number):
    """Return 1, 0 or -1."""
    if number > 0:
        return 1
    if number < 0:
        return -1
    return 0


def first_sign(numbers):
    """Return the sign of the first integer that is not 0, or 0."""
    for number in numbers:
        if number != 0:
            return sign_of(number)
    return 0
