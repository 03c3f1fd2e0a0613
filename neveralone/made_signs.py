"""Signed books that are made from little: boundaries, rings, labels, crosses (points 64 and 65)."""

from neveralone.chains import Chain
from neveralone.errors import Mismatch
from neveralone.makers import cross_book, label_book, ring_book
from neveralone.rooms import complement


def boundary_chain(places, corners):
    """Return the boundary of the chain that gives 1 to the room of the corners."""
    if len(corners) < 2:
        raise Mismatch("size")
    return Chain(places, len(corners), [(corners, 1)]).boundary()


def ring_chain(places, size):
    """Return the chain that gives signs to the rooms of the ring book."""
    rooms = ring_book(places, size).rooms
    return Chain(places, size, [(room, ring_sign(places, room)) for room in rooms])


def ring_sign(places, room):
    """Return the sign of a room of a ring book, by its places above a place outside of it."""
    outside = complement(places, room)
    above = [place for place in room if place > outside[0]]
    return -1 if len(above) & 1 else 1


def label_chain(labels, kinds):
    """Return the product of the boundaries of the rooms of all places with one label."""
    book = label_book(labels, kinds)
    rooms = [[place for place, label in enumerate(labels) if label == kind] for kind in range(1, kinds + 1)]
    return product_of_boundaries(book.places, rooms)


def cross_chain(places, pairs):
    """Return the product of the boundaries of the pairs."""
    cross_book(places, pairs)
    return product_of_boundaries(places, pairs)


def product_of_boundaries(places, rows):
    """Return the product, in order, of the boundaries of the chains that give 1 to one row each."""
    product = Chain(places, 0, [((), 1)])
    for row in rows:
        product = product * Chain(places, len(row), [(row, 1)]).boundary()
    return product
