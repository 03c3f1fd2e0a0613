"""Bounds: rows of a linear system in a few unknowns, and their corners (points 84 to 87)."""

from neveralone.errors import BadBounds, Tied, Unbounded
from neveralone.exact import determinant, lowest_terms, normal_of, solve
from neveralone.rooms import subsets


class Bounds:
    """Rows (coefficients, right), none of which may be broken; neither unbounded nor tied."""

    MOST_UNKNOWNS = 4
    MOST_ROWS = 12

    def __init__(self, unknowns, rows):
        fault, at = first_fault(unknowns, rows, Bounds.MOST_UNKNOWNS, Bounds.MOST_ROWS)
        if fault != "":
            raise BadBounds(fault, at)
        self.unknowns = unknowns
        self.bound_rows = tuple([(tuple(coefficients), right) for coefficients, right in rows])
        direction = free_direction(unknowns, [coefficients for coefficients, _ in self.bound_rows])
        if direction is not None:
            raise Unbounded(direction)
        self._corners = corners_of(unknowns, self.bound_rows)
        tied = [tight for tight in self._corners if len(tight) > unknowns]
        if len(tied) > 0:
            raise Tied(min(tied))

    def __len__(self):
        return len(self.bound_rows)

    def __iter__(self):
        return iter(self.bound_rows)

    def __contains__(self, x):
        """Tell whether the point x breaks no row."""
        return tight_at(self.bound_rows, x[0], x[1]) is not None

    @property
    def is_empty(self):
        """Tell whether there is no corner, so that every point breaks a row."""
        return len(self._corners) == 0

    def tight_rows(self, numerators, denominator=1):
        """Return the ascending tuple of the rows that are tight at a point, or None if it breaks a row."""
        return tight_at(self.bound_rows, numerators, denominator)

    def corner_rooms(self):
        """Return the ascending list of the corner rooms."""
        return sorted(list(self._corners))

    def corner_points(self):
        """Return a new dict from each corner room to its corner (numerators, denominator)."""
        return {room: self._corners[room] for room in self._corners}


def first_fault(unknowns, rows, most_unknowns, most_rows):
    """Return the first fault of the arguments of bounds with its integer, or ("", 0)."""
    if not 1 <= unknowns <= most_unknowns:
        return ("unknowns", unknowns)
    if not unknowns < len(rows) <= most_rows:
        return ("rows", len(rows))
    for at, (coefficients, _) in enumerate(rows):
        if len(coefficients) != unknowns:
            return ("count", at)
        if all([number == 0 for number in coefficients]):
            return ("zero", at)
    return ("", 0)


def growth(coefficients, direction):
    """Return the sum of the products of the numbers at the same index."""
    return sum([first * second for first, second in zip(coefficients, direction)])


def tight_at(rows, numerators, denominator):
    """Return the ascending tuple of the rows that are tight at a point, or None if it breaks a row."""
    left = [right * denominator - growth(coefficients, numerators) for coefficients, right in rows]
    if any([number < 0 for number in left]):
        return None
    return tuple([at for at, number in enumerate(left) if number == 0])


def chosen_rows(rows, size):
    """Return the lists of so many of the rows, in order."""
    return [[rows[at] for at in chosen] for chosen in subsets(tuple(range(len(rows))), size)]


def free_direction(unknowns, rows):
    """Return a direction in lowest terms along which no row grows, or None.

    Such directions make up a cone. If the rows have full rank, some rows do not change along each edge
    of the cone, and one row less than unknowns is enough to tell it. Otherwise there is a line along
    which no row changes, and it is told in the same way with rows of single unknowns added.
    """
    if has_full_rank(unknowns, rows):
        edges = chosen_rows(rows, unknowns - 1)
    else:
        edges = chosen_rows(rows + single_rows(unknowns), unknowns - 1)
    for chosen in edges:
        normal = normal_of(chosen, unknowns)
        for direction in (normal, tuple([-number for number in normal])):
            if is_free(direction, rows):
                return lowest_terms(direction)
    return None


def has_full_rank(unknowns, rows):
    """Tell whether as many of the rows as unknowns are independent."""
    for chosen in chosen_rows(rows, unknowns):
        if determinant(chosen) != 0:
            return True
    return False


def is_free(direction, rows):
    """Tell whether the integers are not all 0 and no row grows along them."""
    if all([number == 0 for number in direction]):
        return False
    return all([growth(row, direction) <= 0 for row in rows])


def single_rows(unknowns):
    """Return the rows of coefficients that have one unknown each."""
    return [tuple([1 if at == k else 0 for at in range(unknowns)]) for k in range(unknowns)]


def corners_of(unknowns, rows):
    """Return the dict from the ascending tuple of all tight rows at each corner to the corner."""
    corners = {}
    for chosen in chosen_rows(rows, unknowns):
        point = solve([coefficients for coefficients, _ in chosen], [right for _, right in chosen])
        if point is not None:
            tight = tight_at(rows, point[0], point[1])
            if tight is not None:
                corners[tight] = point
    return corners
