"""Paths between rests, the signs of rests, and the fair rest of one table (points 98, 100 and 101)."""

from neveralone.balance import row_sign
from neveralone.corners import corner_chain
from neveralone.exact import lowest_terms
from neveralone.paths import mate
from neveralone.rests import list_rests, rest_at, row_of_answers
from neveralone.tables import both_bounds, check_tables, corner_family, start_row


def rest_from_start(first, second, target=0):
    """Return the rest at the other end of the path of the start."""
    both = both_bounds(first, second)
    return rest_at(both, mate(corner_family(both), start_row(first, second), target))


def rest_mate(first, second, rest, target=0):
    """Return the rest at the other end of the path of a rest, or None if the start is there."""
    both = both_bounds(first, second)
    row = mate(corner_family(both), row_of_answers(first, second, rest), target)
    return None if row == start_row(first, second) else rest_at(both, row)


def rest_sign(first, second, rest):
    """Return the sign of a rest."""
    both = both_bounds(first, second)
    sign = row_sign([corner_chain(bounds) for bounds in both], row_of_answers(first, second, rest))
    return sign if (len(first) + len(first[0])) & 1 else -sign


def fair_rest(table):
    """Return the fair rest of a table and its value, as a triple (weights, others, value)."""
    check_tables(table, table)
    most = max([max(entries) for entries in table])
    answers = [[most + 1 - entry for entry in entries] for entries in table]
    weights, others = list_rests(table, answers)[0]
    pairs = [(weight, other) for weight in weights for other in others]
    entries = [entry for row in table for entry in row]
    told = sum([weight * other * entry for (weight, other), entry in zip(pairs, entries)])
    return (weights, others, lowest_terms((told, sum([weight * other for weight, other in pairs]))))
