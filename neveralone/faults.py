"""Lists of all faults of books and families (point 23), for which Book and Family raise."""

from neveralone.errors import NotEven
from neveralone.rooms import MOST_PLACES, room_fault


def book_faults(places, size, rooms):
    """Return the pairs (fault, at) for the arguments of a book."""
    if not 1 <= places <= MOST_PLACES:
        return [("places", 0)]
    if not 1 <= size <= places:
        return [("size", 0)]
    found = []
    seen = {}
    for at, room in enumerate(rooms):
        fault = room_fault(places, size, room)
        kept = tuple(sorted(room))
        if fault == "" and kept in seen:
            fault = "again"
        if fault == "":
            seen[kept] = True
        else:
            found.append((fault, at))
    return found


def odd_paper(book):
    """Return the least odd face of a book with the rooms that have it, or None."""
    odd = book.odd_faces()
    if len(odd) == 0:
        return None
    return (odd[0], tuple(book.rooms_at(odd[0])))


def check_even(book):
    """Raise NotEven with the index 0 and the least odd face if the book has one."""
    odd = book.odd_faces()
    if len(odd) > 0:
        raise NotEven(0, odd[0])


def family_faults(books):
    """Return the pairs (fault, at) for the books of a family."""
    if len(books) == 0:
        return [("none", 0)]
    places = books[0].places
    found = [("places", at) for at, book in enumerate(books) if book.places != places]
    if sum([book.size for book in books]) != places:
        found.append(("sizes", len(books)))
    return found + [("odd", at) for at, book in enumerate(books) if not book.is_even]
