"""Webs of mates: what the mates for several targets or rules make together (point 59)."""

from neveralone.partitions import list_partitions
from neveralone.paths import fitting_rules, mate, mate_indexes
from neveralone.points import check_target


def mate_table(family, rules=None):
    """Return for each partition the list of the indexes of its mates for the targets in order."""
    used = fitting_rules(family, rules)
    rows = list_partitions(family)
    columns = [mate_indexes(rows, target, used) for target in range(family.places)]
    return [[column[at] for column in columns] for at in range(len(rows))]


def mate_pieces(family, rules=None):
    """Return the pieces of the partitions that mates lead through, as ascending lists of indexes."""
    table = mate_table(family, rules)
    found = []
    known = {}
    for start in range(len(table)):
        if start not in known:
            piece = piece_from(table, start)
            for at in piece:
                known[at] = True
            found.append(sorted(piece))
    return found


def piece_from(table, start):
    """Return the indexes that mates lead to from the start, in the order in which they are found."""
    known = {start: True}
    found = [start]
    at = 0
    while at < len(found):
        mates = table[found[at]]
        for other in mates:
            if other not in known:
                known[other] = True
                found.append(other)
        at = at + 1
    return found


def another_partition(family, row):
    """Return the mate of a partition for the target 0."""
    return mate(family, row, 0)


def rule_rings(family, target, first, second):
    """Return the rings of indexes in which mates by the first and by the second rules take turns."""
    check_target(family.places, target)
    used = fitting_rules(family, first)
    others = fitting_rules(family, second)
    rows = list_partitions(family)
    mates = mate_indexes(rows, target, used)
    turned = mate_indexes(rows, target, others)
    rings = []
    known = {}
    for start in range(len(rows)):
        if start not in known:
            ring = ring_from(mates, turned, start)
            for at in ring:
                known[at] = True
            rings.append(tuple(ring))
    return rings


def ring_from(mates, turned, start):
    """Return the ring from the start, by both lists of mates in turn, until the start comes again."""
    ring = [start, mates[start]]
    while turned[ring[-1]] != start:
        ring.append(turned[ring[-1]])
        ring.append(mates[ring[-1]])
    return ring
