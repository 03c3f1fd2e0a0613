"""Points: the partitions and the near partitions for a target (points 49 to 51)."""

from neveralone.errors import Mismatch, NotAPartition, TooMany
from neveralone.masks import mask_of
from neveralone.partitions import entry_fault, partition_fault
from neveralone.rooms import without

MOST_NEAR = 20000


def check_target(places, target):
    """Raise Mismatch if the target is not a place."""
    if not 0 <= target < places:
        raise Mismatch("target")


def double_place(row):
    """Return the least place that lies in two or more rooms of a row, or None."""
    for place in sorted({place for room in row for place in room}):
        if len([room for room in row if place in room]) > 1:
            return place
    return None


def near_fault(family, row, target):
    """Return the first fault of a row as a near partition for the target, or an empty string."""
    check_target(family.places, target)
    fault = entry_fault(family, row)
    if fault != "":
        return fault
    covered = [place for room in row for place in room]
    if target in covered:
        return "target"
    if any([place not in covered for place in range(family.places) if place != target]):
        return "place"
    return ""


def tied_points(family, row, target):
    """Return the ascending list of the points that arise from a point by one exchange."""
    check_target(family.places, target)
    if partition_fault(family, row) == "":
        leaving = target
    elif near_fault(family, row, target) == "":
        leaving = double_place(row)
    else:
        raise NotAPartition("row")
    # Any other place lies in one room alone, so it would be missing next to the target.
    found = []
    for at, room in enumerate(row):
        if leaving in room:
            found.extend(exchanged_rows(family[at], tuple(row), at, without(room, leaving)))
    return sorted(found)


def exchanged_rows(book, row, at, face):
    """Return the rows in which the room with the index is replaced by another one at the face."""
    others = [room for room in book.rooms_at(face) if room != row[at]]
    return [row[:at] + (room,) + row[at + 1:] for room in others]


def list_near(family, target, /, *, most=MOST_NEAR):
    """Return the ascending list of all near partitions for a target."""
    check_target(family.places, target)
    lists = [[room for room in book.rooms if target not in room] for book in family.books]
    # The bit behind the places tells that a place lies in two rooms.
    spare = 1 << family.places
    wanted = (spare - 1) ^ (1 << target)
    tables = near_tables(lists, wanted, spare)
    if tables[0].get(0, 0) > most:
        raise TooMany("near partitions", most)
    grown = [((), 0)]
    for rooms, table in zip(lists, tables[1:]):
        grown = longer_rows(grown, rooms, table, spare)
    return [row for row, _ in grown]


def near_tables(lists, wanted, spare):
    """Return for each index the dict from the used places to the number of ways to go on from there."""
    tables = [{wanted | spare: 1}]
    for rooms in lists[::-1]:
        tables.append(ways_before(tables[-1], rooms, spare))
    return tables[::-1]


def ways_before(after, rooms, spare):
    """Return the numbers of ways to go on, one room earlier than the dict `after` tells them."""
    ways = {}
    for room in rooms:
        mask = mask_of(room)
        for used in after:
            for left in places_before(used, room, mask, spare):
                ways[left] = ways.get(left, 0) + after[used]
    return ways


def places_before(used, room, mask, spare):
    """Return what may have been used before the room was added."""
    if used & mask != mask:
        return []
    if used & spare == 0:
        return [used ^ mask]
    return [used ^ mask] + [(used ^ mask ^ spare) | (1 << place) for place in room]


def longer_rows(grown, rooms, table, spare):
    """Return the pairs (row, used places) with one room more from which the table leads on."""
    masked = [(room, mask_of(room)) for room in rooms]
    longer = []
    for row, used in grown:
        for room, mask in masked:
            after = overlaid(used, mask, spare)
            if after in table:
                longer.append((row + (room,), after))
    return longer


def overlaid(used, mask, spare):
    """Return what is used behind a room that shares no or the first double place, or None."""
    common = used & mask
    if common == 0:
        return used | mask
    if common & (common - 1) == 0 and used & spare == 0:
        return used | mask | spare
    return None
