"""Books: sets of rooms of one size (points 5 to 7)."""

from neveralone.errors import BadBook, Mismatch
from neveralone.faults import book_faults
from neveralone.masks import mask_of, room_of
from neveralone.rooms import faces, without


class Book:
    """A set of rooms of one size, in ascending order."""

    MOST_PLACES = 12

    def __init__(self, places, size, rooms):
        found = book_faults(places, size, rooms)
        if len(found) > 0:
            fault, at = found[0]
            raise BadBook(fault, at)
        self.places = places
        self.size = size
        self.rooms = tuple(sorted([tuple(sorted(room)) for room in rooms]))
        self._known = {room: True for room in self.rooms}

    @classmethod
    def empty(cls, places, size):
        """Return the book without rooms."""
        return cls(places, size, ())

    def __eq__(self, other):
        return (isinstance(other, Book) and self.places == other.places
                and self.size == other.size and self.rooms == other.rooms)

    def __len__(self):
        return len(self.rooms)

    def __contains__(self, x):
        return x in self._known

    def __iter__(self):
        return iter(self.rooms)

    def __xor__(self, other):
        """Return the sum: the rooms that lie in exactly one of the books."""
        if not isinstance(other, Book):
            return NotImplemented
        if self.places != other.places:
            raise Mismatch("places")
        if self.size != other.size:
            raise Mismatch("size")
        mine = [room for room in self.rooms if room not in other]
        theirs = [room for room in other.rooms if room not in self]
        return Book(self.places, self.size, mine + theirs)

    def __mul__(self, other):
        """Return the join: the unions that arise in an odd number of ways."""
        if not isinstance(other, Book):
            return NotImplemented
        if self.places != other.places:
            raise Mismatch("places")
        if self.size + other.size > self.places:
            raise Mismatch("size")
        return Book(self.places, self.size + other.size, odd_unions(self.rooms, other.rooms))

    @property
    def is_even(self):
        """Tell whether no face is odd."""
        return len(self.odd_faces()) == 0

    @property
    def is_two_each(self):
        """Tell whether each face of a room lies in exactly two rooms."""
        table = face_table(self)
        return all([len(table[face]) == 2 for face in table])

    def odd_faces(self):
        """Return the ascending list of the faces that lie in an odd number of rooms."""
        table = face_table(self)
        return sorted([face for face in table if len(table[face]) & 1])

    def rooms_at(self, face):
        """Return the ascending list of the rooms that have the face."""
        return [room for room in self.rooms if face in faces(room)]

    def boundary(self):
        """Return the book of the odd faces."""
        if self.size == 1:
            raise Mismatch("size")
        return Book(self.places, self.size - 1, self.odd_faces())

    def link(self, place):
        """Return the book of the rooms that contain the place, each without it."""
        if self.size == 1:
            raise Mismatch("size")
        rooms = [without(room, place) for room in self.rooms if place in room]
        return Book(self.places, self.size - 1, rooms)


def odd_unions(first, second):
    """Return the unions of two rooms without a common place that arise an odd number of times."""
    masks = [mask_of(room) for room in second]
    odd = {}
    for room in first:
        mine = mask_of(room)
        for mask in masks:
            if mine & mask == 0:
                odd[mine | mask] = not odd.get(mine | mask, False)
    return [room_of(mask) for mask in odd if odd[mask]]


def face_table(book):
    """Return a dict from each face of the rooms to the ascending list of the rooms that have it."""
    table = {}
    for room in book.rooms:
        for face in faces(room):
            table.setdefault(face, []).append(room)
    return table
