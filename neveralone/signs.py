"""Pieces of books, and the signs of two-each books or the rings that rule them out (points 60 to 63)."""

from neveralone.books import face_table
from neveralone.chains import Chain
from neveralone.errors import BadPaper, NoSigns, NotTwoEach


def pieces(book):
    """Return the pieces of a book as ascending lists of rooms, by their least rooms."""
    near = neighbour_lists(book)
    behind = {}
    found = []
    for room in book.rooms:
        if room not in behind:
            found.append(sorted(walked_from(near, behind, room)))
    return found


def neighbour_lists(book):
    """Return a dict from each room of a book to the list of its neighbours."""
    table = face_table(book)
    near = {room: [] for room in book.rooms}
    for face in table:
        for room in table[face]:
            near[room].extend([other for other in table[face] if other != room])
    return near


def walked_from(near, behind, start):
    """Return the rooms that neighbours lead to from the start, each one after the one it was found from.

    Each of them gets an entry in `behind`: the room that it was found from, or None for the start.
    """
    behind[start] = None
    found = [start]
    at = 0
    while at < len(found):
        room = found[at]
        for other in near[room]:
            if other not in behind:
                behind[other] = room
                found.append(other)
        at = at + 1
    return found


def bond(first, second):
    """Return the bond of two rooms of one size: 1 or -1 for neighbours, otherwise 0."""
    lost = [at for at, place in enumerate(first) if place not in second]
    won = [at for at, place in enumerate(second) if place not in first]
    if len(lost) != 1:
        return 0
    return 1 if (lost[0] + won[0]) & 1 else -1


def check_two_each(book):
    """Raise NotTwoEach with the least face of a room that does not lie in exactly two rooms."""
    table = face_table(book)
    faulty = [face for face in table if len(table[face]) != 2]
    if len(faulty) > 0:
        raise NotTwoEach(min(faulty))


def find_signs(book):
    """Return ("signs", chain) if a two-each book has signs, otherwise ("ring", rooms)."""
    check_two_each(book)
    near = neighbour_lists(book)
    behind = {}
    signs = {}
    for start in book.rooms:
        if start not in signs:
            for room in walked_from(near, behind, start):
                before = behind[room]
                signs[room] = 1 if before is None else signs[before] * bond(before, room)
    for room in book.rooms:
        for other in near[room]:
            if signs[other] != signs[room] * bond(room, other):
                return ("ring", closed_up(way_back(behind, room), way_back(behind, other)))
    return ("signs", Chain(book.places, book.size, [(room, signs[room]) for room in book.rooms]))


def way_back(behind, room):
    """Return the list of the rooms from a room back to the one that its piece was found from."""
    way = [room]
    while behind[way[-1]] is not None:
        way.append(behind[way[-1]])
    return way


def closed_up(first, second):
    """Return the ring of two ways back: along the first one as far as they differ, then back the second."""
    met = {room: True for room in second}
    own = [room for room in first if room not in met]
    joint = first[len(own)]
    rest = second[:second.index(joint)]
    return tuple(own + [joint] + rest[::-1])


def signed_book(book):
    """Return the chain of the signs of a two-each book, or raise NoSigns with a ring."""
    word, found = find_signs(book)
    if word == "ring":
        raise NoSigns(found)
    return found


def ring_turn(book, ring):
    """Return the product of the bonds along a ring of a two-each book."""
    check_two_each(book)
    if len(ring) < 3:
        raise BadPaper(0, "count")
    for at, room in enumerate(ring):
        if room not in book:
            raise BadPaper(at, "room")
    turn = 1
    for at in range(len(ring)):
        step = bond(ring[at], ring[(at + 1) % len(ring)])
        if step == 0:
            raise BadPaper(at, "face")
        turn = turn * step
    return turn


def is_signed(chain):
    """Tell whether a chain is a signed book."""
    if chain.degree == 0 or any([abs(number) != 1 for _, number in chain.terms]):
        return False
    return len(chain.boundary()) == 0
