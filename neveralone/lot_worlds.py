"""Worlds of one even book, whose things are lots (points 45, 56 and 130)."""

from neveralone.errors import NotAPartition
from neveralone.lotpaths import mate_lot
from neveralone.lots import count_lots, list_lots, lot_family, lot_fault_in
from neveralone.paths import rules_by_order
from neveralone.points import check_target
from neveralone.worlds import World, row_with_thing


class LotWorld(World):
    """A world whose things are the lots of an even book."""

    def __init__(self, book, order="next"):
        World.__init__(self, lot_family(book))
        self._book = book
        self._rules = rules_by_order(self.family.books, order)

    def thing_of(self, row):
        """Return the lot of the rooms of a partition."""
        return tuple(sorted(row_with_thing(self, row)))

    def row_of(self, thing):
        """Return the partition of a lot whose rooms ascend."""
        if lot_fault_in(self.family, thing) != "":
            raise NotAPartition("thing")
        return tuple(thing)

    def things(self):
        """Return the ascending list of all lots."""
        return list_lots(self._book)

    def number(self):
        """Return the number of lots."""
        return count_lots(self._book)

    def other(self, thing, target):
        """Return the lot at the other end of the path of a lot."""
        row = self.row_of(thing)
        check_target(self._book.places, target)
        return mate_lot(row, target, self._rules)
