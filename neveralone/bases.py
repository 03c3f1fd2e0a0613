"""Bases of a matrix: rooms whose columns add up to right sides that leave no ties (points 108 to 110)."""

from neveralone.books import Book
from neveralone.chains import Chain
from neveralone.errors import BadBounds, Mismatch, NotARoom
from neveralone.exact import determinant, first_sign, sign_of, solve
from neveralone.rooms import complement, merged, room_fault, shuffle_sign, subsets, without

MOST_LINES = 4
MOST_COLUMNS = 8


def check_matrix(matrix):
    """Return the numbers of rows and of columns, or raise BadBounds."""
    if not 1 <= len(matrix) <= MOST_LINES:
        raise BadBounds("rows", len(matrix))
    columns = len(matrix[0])
    if not 1 <= columns <= MOST_COLUMNS:
        raise BadBounds("columns", 0)
    for at, row in enumerate(matrix):
        if len(row) != columns:
            raise BadBounds("columns", at)
    for at, row in enumerate(matrix):
        if min(row) < 0:
            raise BadBounds("entry", at)
    for column in range(columns):
        if all([row[column] == 0 for row in matrix]):
            raise BadBounds("zero", column)
    return (len(matrix), columns)


def unit(many, at):
    """Return the row that has 1 at the index and 0 elsewhere."""
    return [1 if k == at else 0 for k in range(many)]


def columns_of(matrix, room):
    """Return the square matrix of the columns of the places of a room, in order."""
    rows = [list(row) + unit(len(matrix), at) for at, row in enumerate(matrix)]
    return [[row[place] for place in room] for row in rows]


def column_sign(matrix, room):
    """Return the sign of the determinant of the columns of the places of a row, in order."""
    return sign_of(determinant(columns_of(matrix, room)))


def is_base(matrix, room):
    """Tell whether a room is a base."""
    many, things = check_matrix(matrix)
    if room_fault(things + many, many, room) != "" or tuple(sorted(room)) != room:
        return False
    return has_positive_solution(columns_of(matrix, room))


def has_positive_solution(columns):
    """Tell whether the first coefficient other than 0 of each number of the solution is above 0.

    The coefficients of a number with rising powers of e are what the solutions of a right side of ones and
    of right sides with a single 1 have for it.
    """
    many = len(columns)
    plain = solve(columns, [1 for _ in range(many)])
    if plain is None or min(plain[0]) < 0:
        return False
    if min(plain[0]) > 0:
        return True
    solved = [plain] + [solve(columns, unit(many, at)) for at in range(many)]
    return all([first_sign([numerators[at] for numerators, _ in solved]) > 0 for at in range(many)])


def check_base(matrix, room):
    """Raise NotARoom if a room is not a base."""
    if not is_base(matrix, room):
        raise NotARoom(room)


def solution_of(matrix, room):
    """Return the solution of a base for e = 0 as a pair (numerators, denominator)."""
    return solve(columns_of(matrix, room), [1 for _ in matrix])


def base_solution(matrix, room):
    """Return the solution of a base for e = 0, in the order of the room."""
    check_base(matrix, room)
    return solution_of(matrix, room)


def all_bases(matrix):
    """Return the ascending list of all bases."""
    many, things = check_matrix(matrix)
    rooms = subsets(tuple(range(things + many)), many)
    return [room for room in rooms if has_positive_solution(columns_of(matrix, room))]


def bases_book(matrix):
    """Return the book of the complements of all bases."""
    many, things = check_matrix(matrix)
    places = things + many
    return Book(places, things, [complement(places, base) for base in all_bases(matrix)])


def bases_chain(matrix):
    """Return the chain that gives signs to the complements of all bases."""
    many, things = check_matrix(matrix)
    terms = [(complement(things + many, base), base) for base in all_bases(matrix)]
    signed = [(room, shuffle_sign(room, base) * column_sign(matrix, base)) for room, base in terms]
    return Chain(things + many, things, signed)


def other_base(matrix, room, entering):
    """Return the other base among the places of a base and one other place."""
    check_base(matrix, room)
    many, things = check_matrix(matrix)
    if not 0 <= entering < things + many or entering in room:
        raise Mismatch("entering")
    wider = merged(room, (entering,))
    others = [without(wider, leaving) for leaving in room]
    return [other for other in others if is_base(matrix, other)][0]
