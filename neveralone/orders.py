"""Strict orders of things, and the rooms that no place beats (points 103 to 107)."""

from neveralone.books import Book
from neveralone.chains import Chain
from neveralone.errors import BadOrders, Mismatch, NotARoom
from neveralone.rooms import subsets, without

MOST_ORDERS = 4
MOST_THINGS = 8


def check_orders(orders):
    """Return the numbers of orders and of things, or raise BadOrders."""
    if not 1 <= len(orders) <= MOST_ORDERS:
        raise BadOrders("count", len(orders))
    things = len(orders[0])
    if not 1 <= things <= MOST_THINGS:
        raise BadOrders("things", things)
    for at, order in enumerate(orders):
        if sorted(order) != list(range(things)):
            raise BadOrders("order", at)
    return (len(orders), things)


def full_orders(orders):
    """Return the list of the full orders, which list the own places, too."""
    many, things = check_orders(orders)
    own = tuple(range(things, things + many))
    return [(own[at],) + tuple(order) + without(own, own[at]) for at, order in enumerate(orders)]


def least_in(full, room):
    """Return the place of a room that a full order lists first."""
    return [place for place in full if place in room][0]


def least_place(orders, at, room):
    """Return the least place of a room in the full order with an index."""
    return least_in(full_orders(orders)[at], room)


def beaters(orders, room):
    """Return the ascending list of the places that beat a room."""
    return beaters_in(full_orders(orders), room)


def beaters_in(fulls, room):
    """Return the ascending list of the places that each full order lists behind the least place of a room."""
    behind = [full[full.index(least_in(full, room)) + 1:] for full in fulls]
    return [place for place in sorted(behind[0]) if all([place in places for places in behind])]


def unbeaten_rooms(orders):
    """Return the ascending list of the unbeaten rooms."""
    many, things = check_orders(orders)
    fulls = full_orders(orders)
    return [room for room in subsets(tuple(range(things + many)), many) if len(beaters_in(fulls, room)) == 0]


def own_room(many, things):
    """Return the room of all own places."""
    return tuple(range(things, things + many))


def unbeaten_book(orders):
    """Return the book of the unbeaten rooms and of the room of all own places."""
    many, things = check_orders(orders)
    return Book(things + many, many, unbeaten_rooms(orders) + [own_room(many, things)])


def least_row(orders, room):
    """Return the row of the least places of a room in the full orders."""
    return tuple([least_in(full, room) for full in full_orders(orders)])


def unbeaten_chain(orders):
    """Return the chain that gives signs to the rooms of the unbeaten book."""
    many, things = check_orders(orders)
    terms = [(least_row(orders, room), 1) for room in unbeaten_rooms(orders)]
    return Chain(things + many, many, terms + [(own_room(many, things), -1)])


def other_unbeaten(orders, room, leaving):
    """Return the other room of the unbeaten book at the face of a room without a place."""
    book = unbeaten_book(orders)
    if room not in book:
        raise NotARoom(room)
    if leaving not in room:
        raise Mismatch("leaving")
    return [other for other in book.rooms_at(without(room, leaving)) if other != room][0]
