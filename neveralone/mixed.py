"""Mixed families, in which some books are equal, and their sorted partitions (points 125 and 126)."""

from neveralone.ledgers import counts_by_place
from neveralone.partitions import check_partition, list_partitions
from neveralone.paths import mate, rules_by_order


def sizes_of(family):
    """Return the list of the sizes of the books."""
    return [book.size for book in family.books]


def mixed_counts(family):
    """Return for each place the list of the numbers of partitions whose room of each book has the place."""
    return [counts_by_place(family, place) for place in range(family.places)]


def equal_books(family):
    """Return the list of the groups of equal books, as ascending tuples of indexes."""
    groups = []
    for at, book in enumerate(family.books):
        if book not in family.books[:at]:
            groups.append(tuple([k for k, other in enumerate(family.books) if other == book]))
    return groups


def sorted_row(family, row):
    """Return the row in which the rooms of equal books of a partition are exchanged so that they ascend."""
    return sorted_by(equal_books(family), check_partition(family, row))


def sorted_by(groups, row):
    """Return the row in which the rooms at the indexes of each group ascend."""
    rooms = {}
    for group in groups:
        for at, room in zip(group, sorted([row[at] for at in group])):
            rooms[at] = room
    return tuple([rooms[at] for at in range(len(row))])


def list_sorted(family):
    """Return the ascending list of the sorted partitions."""
    groups = equal_books(family)
    return [row for row in list_partitions(family) if sorted_by(groups, row) == row]


def sorted_mate(family, row, target, *, order="next"):
    """Return the sorted row of the mate of a partition by the rules of one order."""
    rules = rules_by_order(family.books, order)
    return sorted_row(family, mate(family, row, target, rules))
