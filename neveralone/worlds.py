"""Worlds, which read the partitions of a family as things of another kind (points 127 to 130)."""

from neveralone.errors import Mismatch, NotAPartition
from neveralone.partitions import check_partition, count_partitions, list_partitions, partition_fault
from neveralone.paths import mate, rules_by_order


class World:
    """A family whose things are its partitions, other than the start if there is one."""

    def __init__(self, family, start=None):
        self.family = family
        self.start = None if start is None else check_partition(family, start)
        # The rules None stand for these ones; kept, they are not made anew for each path.
        self._rules = rules_by_order(family.books, "next")

    def thing_of(self, row):
        """Return the thing of a partition."""
        return row_with_thing(self, row)

    def row_of(self, thing):
        """Return the partition of a thing."""
        return row_found(self, tuple(thing))

    def things(self):
        """Return the list of the things of all partitions, in the ascending order of the partitions."""
        return [self.thing_of(row) for row in list_partitions(self.family) if row != self.start]

    def number(self):
        """Return the number of things."""
        many = count_partitions(self.family)
        return many if self.start is None else many - 1

    def other(self, thing, target):
        """Return the thing at the other end of the path of a thing, or None if the start is there."""
        row = mate(self.family, self.row_of(thing), target, self._rules)
        return None if row == self.start else self.thing_of(row)

    def from_start(self, target):
        """Return the thing at the other end of the path of the start."""
        if self.start is None:
            raise Mismatch("start")
        return self.thing_of(mate(self.family, self.start, target, self._rules))

    def matched(self, target):
        """Return the list of the pairs (thing, thing at the other end of its path, or None)."""
        pairs = []
        known = {}
        for thing in self.things():
            if thing not in known:
                other = self.other(thing, target)
                known[other] = True
                pairs.append((thing, other))
        return pairs


def row_with_thing(world, row):
    """Return a partition that has a thing as a tuple, or raise NotAPartition."""
    checked = check_partition(world.family, row)
    if checked == world.start:
        raise NotAPartition("start")
    return checked


def row_found(world, row):
    """Return the row that was found for a thing, or raise NotAPartition if it has no thing."""
    if row == world.start or partition_fault(world.family, row) != "":
        raise NotAPartition("thing")
    return row
