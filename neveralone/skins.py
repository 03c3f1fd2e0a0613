"""Skins, which are books of size 3, and the surfaces among them (points 123 and 124)."""

from neveralone.books import face_table
from neveralone.errors import BadWeb
from neveralone.lotpaths import lot_mate
from neveralone.lots import list_lots
from neveralone.signs import pieces


def check_skin(book):
    """Raise BadWeb if a book is not a skin."""
    if book.size != 3:
        raise BadWeb("size", book.size)


def skin_places(book):
    """Return the ascending list of the places of the rooms."""
    return sorted({place for room in book.rooms for place in room})


def euler_number(book):
    """Return the number of places less the number of faces plus the number of rooms."""
    check_skin(book)
    return len(skin_places(book)) - len(face_table(book)) + len(book)


def is_surface(book):
    """Tell whether a skin is a surface."""
    check_skin(book)
    if len(book) == 0 or not book.is_two_each:
        return False
    # Ties are neighbours if they share a place, so the pieces of a web's rooms are those of its ties.
    return all([len(pieces(book.link(place))) == 1 for place in skin_places(book)])


def triangle_lots(book):
    """Return the list of the lots of a skin."""
    check_skin(book)
    return list_lots(book)


def second_triangles(book, lot, target, *, order="next"):
    """Return the lot at the other end of the path of a lot of a skin."""
    check_skin(book)
    return lot_mate(book, lot, target, order)
