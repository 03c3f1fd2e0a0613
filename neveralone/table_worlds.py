"""Worlds of two tables, whose things are rests (points 97, 98 and 130)."""

from neveralone.errors import NotAPartition
from neveralone.exact import lowest_terms
from neveralone.rests import is_rest, rest_at, row_of_answers
from neveralone.tables import both_bounds, corner_family, start_row
from neveralone.worlds import World, row_with_thing


class TableWorld(World):
    """A world whose things are the rests of two tables in lowest terms."""

    def __init__(self, first, second):
        self._both = both_bounds(first, second)
        self._first = tuple([tuple(row) for row in first])
        self._second = tuple([tuple(row) for row in second])
        World.__init__(self, corner_family(self._both), start_row(first, second))

    def thing_of(self, row):
        """Return the rest of a partition."""
        return rest_at(self._both, row_with_thing(self, row))

    def row_of(self, thing):
        """Return the partition of a rest in lowest terms."""
        weights, others = thing
        if not is_rest(self._first, self._second, weights, others):
            raise NotAPartition("thing")
        if lowest_terms(weights) != weights or lowest_terms(others) != others:
            raise NotAPartition("thing")
        return row_of_answers(self._first, self._second, thing)
