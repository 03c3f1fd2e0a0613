"""Rules, which put the rooms at each face of an even book into pairs (points 14 and 15)."""

from neveralone.books import face_table
from neveralone.errors import BadRule, NotARoom
from neveralone.faults import check_even


class Rule:
    """Pairs at each face, by the order of the rooms there."""

    ORDERS = ("next", "ends", "far")

    def __init__(self, book, order="next"):
        if order not in Rule.ORDERS:
            raise BadRule("order", ())
        check_even(book)
        self.book = book
        self._partners = ordered_partners(book, order)

    def __call__(self, face, room):
        """Return the partner of the room at the face."""
        partner = self._partners.get((face, room))
        if partner is None:
            raise NotARoom(room)
        return partner

    def pairs(self):
        """Return the ascending list of all pairs as triples (face, lesser room, greater room)."""
        found = [(face, room, self._partners[(face, room)]) for face, room in self._partners]
        return sorted([triple for triple in found if triple[1] < triple[2]])


class TableRule(Rule):
    """Pairs at each face, as triples (face, room, room) list them."""

    def __init__(self, book, pairs):
        check_even(book)
        self.book = book
        self._partners = listed_partners(book, pairs)


def paired(rooms, order):
    """Return the pairs of an ascending list of an even number of rooms, as the order says."""
    half = len(rooms) // 2
    if order == "next":
        return [(rooms[2 * at], rooms[2 * at + 1]) for at in range(half)]
    if order == "ends":
        return [(rooms[at], rooms[2 * half - 1 - at]) for at in range(half)]
    return [(rooms[at], rooms[half + at]) for at in range(half)]


def ordered_partners(book, order):
    """Return the dict from each (face, room) of an even book to the partner by the order."""
    table = face_table(book)
    partners = {}
    for face in table:
        for first, second in paired(table[face], order):
            partners[(face, first)] = second
            partners[(face, second)] = first
    return partners


def listed_partners(book, pairs):
    """Return the dict from each (face, room) of an even book to the partner in the triples."""
    table = face_table(book)
    partners = {}
    for face, first, second in pairs:
        fault = triple_fault(table.get(face, []), partners, (face, first, second))
        if fault != "":
            raise BadRule(fault, face)
        partners[(face, first)] = second
        partners[(face, second)] = first
    left = [face for face in table for room in table[face] if (face, room) not in partners]
    if len(left) > 0:
        raise BadRule("left", min(left))
    return partners


def triple_fault(rooms, partners, triple):
    """Return the first fault of a triple whose face lies in the rooms, or an empty string."""
    face, first, second = triple
    if len(rooms) == 0:
        return "face"
    if first not in rooms or second not in rooms:
        return "room"
    if first == second:
        return "same"
    if (face, first) in partners or (face, second) in partners:
        return "again"
    return ""
