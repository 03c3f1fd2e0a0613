"""Rooms, which are ascending tuples of places, and the signs of rows (points 2 to 4)."""

MOST_PLACES = 12


def faces(room):
    """Return the rooms without one place each, the one without the first place first."""
    return [room[:at] + room[at + 1:] for at in range(len(room))]


def without(room, place):
    """Return the room without the place."""
    return tuple([other for other in room if other != place])


def exchanged(room, leaving, entering):
    """Return the room with the place `entering` instead of the place `leaving`."""
    return tuple(sorted([place for place in room if place != leaving] + [entering]))


def merged(first, second):
    """Return the room of all places of two rooms without a common place."""
    return tuple(sorted(first + second))


def complement(places, room):
    """Return the room of all places that the room does not contain."""
    return tuple([place for place in range(places) if place not in room])


def subsets(items, size):
    """Return the ascending list of all ascending tuples of `size` of the items."""
    if size > len(items):
        return []
    grown = [((), 0)]
    for missing in range(size, 0, -1):
        # Only as many items are passed over as still leave enough for the missing ones.
        stop = len(items) - missing + 1
        grown = [(row + (items[at],), at + 1) for row, start in grown for at in range(start, stop)]
    return [row for row, _ in grown]


def order_sign(row):
    """Return 1 if an even number of pairs of the row stands in descending order, otherwise -1."""
    sign = 1
    for at in range(len(row)):
        for later in row[at + 1:]:
            if later < row[at]:
                sign = -sign
    return sign


def shuffle_sign(first, second):
    """Return the order sign of two rooms in one row, or 0 if they share a place."""
    if any([place in second for place in first]):
        return 0
    return order_sign(first + second)


def room_fault(places, size, room):
    """Return the first fault of a row as a room of the size, or an empty string."""
    if len(room) != size:
        return "count"
    if any([not 0 <= place < places for place in room]):
        return "place"
    if len(set(room)) != len(room):
        return "twice"
    return ""
