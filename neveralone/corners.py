"""The corners of bounds: their book and chain, edges, climbs, and what follows (points 88 to 92)."""

from math import factorial

from neveralone.books import Book
from neveralone.bounds import growth
from neveralone.chains import Chain
from neveralone.errors import Mismatch, NotARoom
from neveralone.exact import determinant, lowest_terms, normal_of, sign_of, solve
from neveralone.rooms import subsets, without


def corner_book(bounds):
    """Return the book of the corner rooms."""
    return Book(len(bounds), bounds.unknowns, bounds.corner_rooms())


def corner_chain(bounds):
    """Return the chain that gives each corner room the sign of its determinant."""
    terms = [(room, sign_of(determinant(rows_of(bounds, room)))) for room in bounds.corner_rooms()]
    return Chain(len(bounds), bounds.unknowns, terms)


def rows_of(bounds, room):
    """Return the list of the coefficients of the rows of a room, in order."""
    return [bounds.bound_rows[at][0] for at in room]


def check_room(bounds, room):
    """Raise NotARoom if the room is not a corner room."""
    if room not in bounds.corner_points():
        raise NotARoom(room)


def corner_point(bounds, room):
    """Return the corner of a corner room as a pair (numerators, denominator)."""
    check_room(bounds, room)
    return bounds.corner_points()[room]


def check_leaving(bounds, room, leaving):
    """Raise an error if the row does not belong to the corner room, or if that is none."""
    check_room(bounds, room)
    if leaving not in room:
        raise Mismatch("leaving")


def edge_direction(bounds, room, leaving):
    """Return the direction of the edge of a corner on which a row of its room leaves."""
    check_leaving(bounds, room, leaving)
    normal = normal_of(rows_of(bounds, without(room, leaving)), bounds.unknowns)
    grown = growth(bounds.bound_rows[leaving][0], normal)
    return lowest_terms([-sign_of(grown) * number for number in normal])


def other_end(bounds, room, leaving):
    """Return the corner room at the other end of the edge on which a row leaves."""
    check_leaving(bounds, room, leaving)
    return next_room(bounds.corner_rooms(), room, leaving)


def next_room(rooms, room, leaving):
    """Return the other one of the corner rooms that has all rows of a corner room but one."""
    face = without(room, leaving)
    return [other for other in rooms if other != room and all([at in other for at in face])][0]


def goal_factors(bounds, room, goal):
    """Return the factors of the rows of a corner room for a goal, as a pair (numerators, denominator)."""
    check_room(bounds, room)
    if len(goal) != bounds.unknowns:
        raise Mismatch("goal")
    rows = rows_of(bounds, room)
    return solve([[row[at] for row in rows] for at in range(bounds.unknowns)], goal)


def climb(bounds, room, goal):
    """Yield the corner rooms of the climb for a goal from a corner room."""
    # The whole climb is made first, so that later changes of the arguments have no effect.
    visited = [room]
    leaving = leaving_row(bounds, room, goal)
    while leaving is not None:
        visited.append(other_end(bounds, visited[-1], leaving))
        leaving = leaving_row(bounds, visited[-1], goal)
    yield from visited


def leaving_row(bounds, room, goal):
    """Return the least row of a corner room with a negative factor for the goal, or None."""
    factors, _ = goal_factors(bounds, room, goal)
    negative = [at for at, factor in zip(room, factors) if factor < 0]
    return negative[0] if len(negative) > 0 else None


def contradiction(bounds):
    """Return integers for the rows that show that the bounds are empty, or None if they have a corner."""
    if not bounds.is_empty:
        return None
    # No direction is free, so the rows have full rank, and one row more than unknowns is enough for a
    # contradiction. The signed minors of such rows are the only integers for it, up to a factor.
    for chosen in subsets(tuple(range(len(bounds))), bounds.unknowns + 1):
        found = contradicting([bounds.bound_rows[at] for at in chosen], bounds.unknowns)
        if found is not None:
            factors = {at: factor for at, factor in zip(chosen, found)}
            return lowest_terms([factors.get(at, 0) for at in range(len(bounds))])
    return None


def contradicting(rows, unknowns):
    """Return the integers that show that one row more than unknowns contradict each other, or None."""
    columns = [[coefficients[k] for coefficients, _ in rows] for k in range(unknowns)]
    normal = normal_of(columns, len(rows))
    for factors in (normal, tuple([-number for number in normal])):
        if all([factor >= 0 for factor in factors]) and growth(factors, [right for _, right in rows]) < 0:
            return factors
    return None


def content(bounds):
    """Return the content of the bounds as a pair (numerator, denominator)."""
    goal = goal_without_zeros(bounds)
    total = (0, 1)
    for room in bounds.corner_rooms():
        top, bottom = corner_share(bounds, room, goal)
        total = lowest_terms((total[0] * bottom + top * total[1], total[1] * bottom))
    return total


def goal_without_zeros(bounds):
    """Return a goal for which no corner room has a factor 0.

    Each factor for the goal of the powers of a number is a polynomial of it other than 0, so it is 0
    for a few numbers only.
    """
    base = 1
    while not all([has_no_zeros(bounds, room, powers_of(base, bounds.unknowns)) for room in bounds.corner_rooms()]):
        base = base + 1
    return powers_of(base, bounds.unknowns)


def has_no_zeros(bounds, room, goal):
    """Tell whether no factor of a corner room for the goal is 0."""
    factors, _ = goal_factors(bounds, room, goal)
    return all([factor != 0 for factor in factors])


def powers_of(base, many):
    """Return the first powers of a number, from 1 on."""
    powers = [1]
    while len(powers) < many:
        powers.append(powers[-1] * base)
    return powers


def corner_share(bounds, room, goal):
    """Return what a corner adds to the content, as a pair with a positive denominator."""
    numerators, denominator = corner_point(bounds, room)
    factors, whole = goal_factors(bounds, room, goal)
    top = 1
    bottom = factorial(bounds.unknowns) * abs(determinant(rows_of(bounds, room)))
    for factor in factors:
        top = top * growth(goal, numerators) * whole
        bottom = bottom * denominator * factor
    return (top * sign_of(bottom), abs(bottom))
