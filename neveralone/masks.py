"""Rooms as integers, with a bit for each place: the quick way to tell what overlaps."""


def mask_of(room):
    """Return the integer whose bits are the places of the room."""
    mask = 0
    for place in room:
        mask = mask | (1 << place)
    return mask


def room_of(mask):
    """Return the room whose places are the bits of the integer."""
    return tuple([place for place in range(mask.bit_length()) if (mask >> place) & 1])


def widened(table, masks):
    """Return the numbers of ways for the unions of a mask of the table and one of the masks."""
    wider = {}
    for used in table:
        for mask in masks:
            if used & mask == 0:
                wider[used | mask] = wider.get(used | mask, 0) + table[used]
    return wider


def fill_tables(lists):
    """Return one dict more than there are lists of rooms.

    The dict with the index j gives to each union of one room from each of the first j lists,
    no two of which overlap, the number of ways to choose these rooms.
    """
    tables = [{0: 1}]
    for rooms in lists:
        masks = [mask_of(room) for room in rooms]
        tables.append(widened(tables[-1], masks))
    return tables
