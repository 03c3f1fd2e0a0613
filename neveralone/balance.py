"""Signed families: the signs of partitions and lots, and how many have which (points 66 to 68)."""

from neveralone.errors import Mismatch, NotSigned
from neveralone.families import Family
from neveralone.lots import check_lot, list_lots
from neveralone.masks import mask_of
from neveralone.partitions import check_partition, count_partitions
from neveralone.rooms import order_sign
from neveralone.signs import is_signed


def signed_family(chains):
    """Return the family of the odd books of signed books."""
    for at, chain in enumerate(chains):
        if not is_signed(chain):
            raise NotSigned(at)
    return Family([chain.odd_book() for chain in chains])


def book_of_signed(chain):
    """Return the odd book of a signed book, or raise NotSigned with the index 0."""
    if not is_signed(chain):
        raise NotSigned(0)
    return chain.odd_book()


def partition_sign(chains, row):
    """Return the sign of a partition of a signed family."""
    family = signed_family(chains)
    return row_sign(chains, check_partition(family, row))


def row_sign(chains, row):
    """Return the order sign of the places of a row, times the coefficients of its rooms."""
    return written_sign(chains, row, [place for room in row for place in room])


def written_sign(chains, row, places):
    """Return the order sign of some places, times the coefficients of the rooms of a row."""
    sign = order_sign(places)
    for chain, room in zip(chains, row):
        sign = sign * chain[room]
    return sign


def balance(chains):
    """Return how many partitions of a signed family have the sign 1, and how many the sign -1."""
    many = count_partitions(signed_family(chains))
    excess = signed_count(chains)
    return ((many + excess) // 2, (many - excess) // 2)


def signed_count(chains):
    """Return the coefficient of the room of all places in the product of some chains."""
    if len(chains) == 0:
        raise Mismatch("none")
    places = chains[0].places
    if any([chain.places != places for chain in chains]):
        raise Mismatch("places")
    if sum([chain.degree for chain in chains]) != places:
        raise Mismatch("degree")
    table = {0: 1}
    for chain in chains:
        table = signed_wider(table, chain.terms)
    return table.get((1 << places) - 1, 0)


def signed_wider(table, terms):
    """Return the coefficients of the product of what the table tells and a chain with these terms."""
    masked = [(mask_of(room), turning_places(room), number) for room, number in terms]
    wider = {}
    for used in table:
        for mask, turning, number in masked:
            if used & mask == 0:
                added = table[used] * number
                before = wider.get(used | mask, 0)
                wider[used | mask] = before - added if is_odd(used & turning) else before + added
    return wider


def turning_places(room):
    """Return the integer whose bits are the places that stand above an odd number of places of the room.

    Each such place that is written ahead of the room turns the shuffle sign around.
    """
    turning = 0
    for place in room:
        turning = turning ^ -(2 << place)
    return turning


def is_odd(mask):
    """Tell whether an odd number of bits of an integer of at most 16 bits are set."""
    folded = mask ^ (mask >> 8)
    folded = folded ^ (folded >> 4)
    folded = folded ^ (folded >> 2)
    return (folded ^ (folded >> 1)) & 1 == 1


def lot_sign(chain, lot):
    """Return the sign of a lot of a signed book of even degree."""
    book = book_for_lots(chain)
    return lot_row_sign(chain, check_lot(book, lot))


def lot_balance(chain):
    """Return how many lots of a signed book have the sign 1, and how many the sign -1."""
    book = book_for_lots(chain)
    signs = [lot_row_sign(chain, lot) for lot in list_lots(book)]
    return (signs.count(1), signs.count(-1))


def book_for_lots(chain):
    """Return the odd book of a signed book of even degree."""
    if chain.degree & 1:
        raise Mismatch("size")
    return book_of_signed(chain)


def lot_row_sign(chain, lot):
    """Return the sign of a lot as that of a partition, with the same chain for all rooms."""
    return row_sign([chain] * len(lot), lot)
