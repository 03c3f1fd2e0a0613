"""Worlds of labels: full rooms of books, and pairings of label webs (points 72, 81, 82 and 130)."""

from neveralone.errors import Mismatch, NotAPartition
from neveralone.labels import label_family
from neveralone.makers import ring_book
from neveralone.rooms import complement
from neveralone.strings import string_names, string_room
from neveralone.worlds import World, row_found, row_with_thing


class LabelWorld(World):
    """A world whose things are the full rooms of a book with labels."""

    def __init__(self, book, labels):
        World.__init__(self, label_family(book, labels))

    def thing_of(self, row):
        """Return the full room of a partition."""
        return row_with_thing(self, row)[0]

    def row_of(self, thing):
        """Return the partition of a full room."""
        return row_found(self, (thing, complement(self.family.places, thing)))


class StringWorld(LabelWorld):
    """A world whose things are the pairings of the label web of labels on a ring, as names."""

    def __init__(self, labels, kinds):
        LabelWorld.__init__(self, ring_book(len(labels), kinds), labels)

    def thing_of(self, row):
        """Return the names of the full string of a partition."""
        return string_names(self.family.places, row_with_thing(self, row)[0])

    def row_of(self, thing):
        """Return the partition of some names."""
        room = room_of_names(self.family.places, thing)
        return row_found(self, (room, complement(self.family.places, room)))


def room_of_names(places, names):
    """Return the room of ascending names of different places, or raise NotAPartition."""
    if tuple(sorted(names)) != names:
        raise NotAPartition("thing")
    try:
        return string_room(places, names)
    except Mismatch:
        raise NotAPartition("thing")
