"""Two tables, their bounds, and the family of the corners of these (points 94, 96 and 97)."""

from neveralone.bounds import Bounds
from neveralone.corners import corner_book, corner_chain
from neveralone.errors import BadTable
from neveralone.families import Family

MOST_LINES = 4


def check_tables(first, second):
    """Return the numbers of rows and of columns of two tables, or raise BadTable."""
    if not 1 <= len(first) <= MOST_LINES:
        raise BadTable("rows", 0, 0)
    for row, entries in enumerate(first):
        if not 1 <= len(entries) <= MOST_LINES or len(entries) != len(first[0]):
            raise BadTable("columns", row, 0)
    if len(second) != len(first):
        raise BadTable("shape", len(second), 0)
    for row, entries in enumerate(second):
        if len(entries) != len(first[0]):
            raise BadTable("shape", row, 0)
    check_entries(first)
    check_entries(second)
    return (len(first), len(first[0]))


def check_entries(table):
    """Raise BadTable for the first entry below 1."""
    for row, entries in enumerate(table):
        for column, entry in enumerate(entries):
            if entry < 1:
                raise BadTable("entry", row, column)


def signed_unit(many, at):
    """Return the coefficients that have -1 at the index and 0 elsewhere."""
    return tuple([-1 if k == at else 0 for k in range(many)])


def row_bounds(first, second):
    """Return the bounds whose unknowns are the weights of the rows."""
    rows, columns = check_tables(first, second)
    own = [(signed_unit(rows, at), 0) for at in range(rows)]
    return Bounds(rows, own + [([entries[column] for entries in second], 1) for column in range(columns)])


def column_bounds(first, second):
    """Return the bounds whose unknowns are the weights of the columns."""
    _, columns = check_tables(first, second)
    own = [(signed_unit(columns, at), 0) for at in range(columns)]
    return Bounds(columns, [(entries, 1) for entries in first] + own)


def both_bounds(first, second):
    """Return the list of the row bounds and the column bounds."""
    return [row_bounds(first, second), column_bounds(first, second)]


def corner_family(both):
    """Return the family of the corner books of the row bounds and the column bounds."""
    return Family([corner_book(bounds) for bounds in both])


def table_family(first, second):
    """Return the family of the corner books of both bounds."""
    return corner_family(both_bounds(first, second))


def table_chains(first, second):
    """Return the list of the corner chains of both bounds."""
    return [corner_chain(bounds) for bounds in both_bounds(first, second)]


def start_row(first, second):
    """Return the partition of the room of all rows and the room of all columns."""
    rows, columns = check_tables(first, second)
    return (tuple(range(rows)), tuple(range(rows, rows + columns)))
