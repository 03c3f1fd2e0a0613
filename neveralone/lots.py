"""Lots: rooms of one even book that use each place exactly once (points 45 to 47)."""

from neveralone.errors import BadFamily, NotAPartition, TooMany
from neveralone.families import Family
from neveralone.masks import mask_of
from neveralone.partitions import MOST_LISTED, entry_fault, partition_fault


def lot_family(book):
    """Return the family of as many copies of the book as a lot has rooms."""
    if book.size == 1 or book.places % book.size != 0:
        raise BadFamily("lots", book.size)
    return Family([book] * (book.places // book.size))


def list_lots(book, /, *, most=MOST_LISTED):
    """Return the ascending list of all lots of a book."""
    tables = lot_tables(book)
    if tables[0].get(0, 0) > most:
        raise TooMany("lots", most)
    masked = [(room, mask_of(room), places_below(room)) for room in book.rooms]
    grown = [((), 0)]
    for table in tables[1:]:
        grown = [(row + (room,), used | mask) for row, used in grown for room, mask, below in masked
                 if may_follow(used, mask, below) and (used | mask) in table]
    return [row for row, _ in grown]


def count_lots(book):
    """Return the number of lots of a book."""
    return lot_tables(book)[0].get(0, 0)


def lot_fault(book, lot):
    """Return the first fault of a tuple of rooms as a lot, or an empty string."""
    return lot_fault_in(lot_family(book), lot)


def lot_fault_in(family, lot):
    """Return the first fault of a tuple of rooms as a lot of the book whose copies make the family."""
    fault = entry_fault(family, lot)
    if fault != "":
        return fault
    if any([lot[at] >= lot[at + 1] for at in range(len(lot) - 1)]):
        return "order"
    return partition_fault(family, lot)


def check_lot(book, lot):
    """Return a lot as a tuple, or raise NotAPartition."""
    fault = lot_fault(book, lot)
    if fault != "":
        raise NotAPartition(fault)
    return tuple(lot)


def places_below(room):
    """Return the integer whose bits are the places below the first place of the room."""
    return (1 << room[0]) - 1


def may_follow(used, mask, below):
    """Tell whether a room is disjoint from the used places and begins with the least unused one.

    The rooms of a lot ascend, so each one begins with the least place that the ones before leave.
    """
    return used & mask == 0 and used & below == below


def lot_tables(book):
    """Return for each index the dict from the used places to the number of ways to go on from there."""
    family = lot_family(book)
    masked = [(mask_of(room), places_below(room)) for room in book.rooms]
    tables = [{(1 << book.places) - 1: 1}]
    for _ in family.books:
        tables.append(ways_before(tables[-1], masked))
    return tables[::-1]


def ways_before(after, masked):
    """Return the numbers of ways to go on, one room earlier than the dict `after` tells them."""
    ways = {}
    for used in after:
        for mask, below in masked:
            left = used ^ mask
            if used & mask == mask and may_follow(left, mask, below):
                ways[left] = ways.get(left, 0) + after[used]
    return ways
