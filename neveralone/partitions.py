"""The partitions of a family: listing, walking, counting, checking (points 38 to 40)."""

from neveralone.errors import NotAPartition, NotARoom, TooMany
from neveralone.masks import fill_tables, mask_of

MOST_LISTED = 5000


def list_partitions(family, /, *, most=MOST_LISTED):
    """Return the ascending list of all partitions of a family."""
    if count_partitions(family) > most:
        raise TooMany("partitions", most)
    return list(walk_partitions(family))


def walk_partitions(family):
    """Yield all partitions of a family in ascending order."""
    lists = room_lists(family)
    yield from walk_rows(family.places, lists)


def count_partitions(family):
    """Return the number of partitions of a family."""
    return count_rows(family.places, room_lists(family))


def partitions_with(family, at, room):
    """Return the ascending list of the partitions whose entry with the index is the room."""
    if room not in family[at]:
        raise NotARoom(room)
    lists = room_lists(family)
    lists[at] = [room]
    if count_rows(family.places, lists) > MOST_LISTED:
        raise TooMany("partitions", MOST_LISTED)
    return list(walk_rows(family.places, lists))


def entry_fault(family, row):
    """Return "count" or "room" if the row does not have one room of each book, or an empty string."""
    if len(row) != len(family):
        return "count"
    if any([room not in book for room, book in zip(row, family.books)]):
        return "room"
    return ""


def partition_fault(family, row):
    """Return the first fault of a row as a partition, or an empty string."""
    fault = entry_fault(family, row)
    if fault != "":
        return fault
    # The sizes add up to the number of places, so a place in two rooms leaves another one out.
    if sorted([place for room in row for place in room]) != list(range(family.places)):
        return "place"
    return ""


def check_partition(family, row):
    """Return the row of a partition as a tuple, or raise NotAPartition."""
    fault = partition_fault(family, row)
    if fault != "":
        raise NotAPartition(fault)
    return tuple(row)


def room_lists(family):
    """Return the list of the lists of rooms of the books."""
    return [list(book.rooms) for book in family.books]


def count_rows(places, lists):
    """Return the number of rows with one room from each list that use each place exactly once."""
    return fill_tables(lists)[-1].get((1 << places) - 1, 0)


def walk_rows(places, lists):
    """Yield the rows with one room from each ascending list that use each place exactly once."""
    # The tables tell which places the lists behind a room can fill, so no way is a dead end.
    tables = fill_tables(lists[::-1])[::-1]
    masked = [with_masks(rooms[::-1]) for rooms in lists]
    waiting = [((), (1 << places) - 1)]
    while len(waiting) > 0:
        row, left = waiting.pop()
        if len(row) == len(lists):
            yield row
        else:
            # The greatest rooms are put on first, so the least one is taken off first.
            for room, mask in masked[len(row)]:
                if (left & mask) == mask and (left ^ mask) in tables[len(row) + 1]:
                    waiting.append((row + (room,), left ^ mask))


def with_masks(rooms):
    """Return the pairs of the rooms and their masks."""
    return [(room, mask_of(room)) for room in rooms]
