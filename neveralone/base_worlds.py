"""Worlds of orders and a matrix, and of parties, whose things are unbeaten bases (points 111, 115, 130 and 131)."""

from neveralone.orders import check_orders
from neveralone.rooms import complement
from neveralone.shares import base_family, base_start, party_matrix, party_orders, shares_at
from neveralone.worlds import World, row_found, row_with_thing


class BaseWorld(World):
    """A world whose things are the unbeaten bases of orders and a matrix."""

    def __init__(self, orders, matrix):
        family = base_family(orders, matrix)
        many, things = check_orders(orders)
        World.__init__(self, family, base_start(many, things))

    def thing_of(self, row):
        """Return the unbeaten base of a partition."""
        return row_with_thing(self, row)[0]

    def row_of(self, thing):
        """Return the partition of an unbeaten base."""
        return row_found(self, (thing, complement(self.family.places, thing)))


class ShareWorld(BaseWorld):
    """A world whose things are the unbeaten bases for parties and wishes."""

    def __init__(self, persons, parties, wishes):
        BaseWorld.__init__(self, party_orders(persons, parties, wishes), party_matrix(persons, parties))
        self._matrix = party_matrix(persons, parties)

    def shares_of(self, thing):
        """Return the shares of an unbeaten base as a pair (numerators of all parties, denominator)."""
        room, _ = self.row_of(thing)
        return shares_at(self._matrix, room)
