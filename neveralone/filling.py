"""Fillings of even books, and the numbers of even books that come from them (points 32 to 34)."""

from neveralone.books import Book
from neveralone.errors import Mismatch, TooMany
from neveralone.faults import check_even
from neveralone.rooms import complement, faces, merged, subsets

MOST_WALKED = 1024


def check_apex(places, apex):
    """Raise Mismatch if the apex is not a place."""
    if not 0 <= apex < places:
        raise Mismatch("apex")


def rooms_beside(places, size, apex):
    """Return the ascending list of the rooms of a size that do not have the apex."""
    return subsets(complement(places, (apex,)), size)


def filling(book, apex):
    """Return the tuple of the rooms of an even book that do not have the apex."""
    check_apex(book.places, apex)
    check_even(book)
    return tuple([room for room in book.rooms if apex not in room])


def filled(places, size, apex, rooms):
    """Return the sum of the boundaries of the rooms, each with the apex added to it."""
    base = Book(places, size, rooms)
    check_apex(places, apex)
    if any([apex in room for room in base.rooms]):
        raise Mismatch("apex")
    odd = {}
    for room in base.rooms:
        for face in faces(merged(room, (apex,))):
            odd[face] = not odd.get(face, False)
    return Book(places, size, [face for face in odd if odd[face]])


def book_number(book, apex=0):
    """Return the number of an even book for an apex."""
    kept = {room: True for room in filling(book, apex)}
    beside = rooms_beside(book.places, book.size, apex)
    return sum([1 << at for at, room in enumerate(beside) if room in kept])


def numbered_book(places, size, number, apex=0):
    """Return the even book with a number for an apex."""
    Book.empty(places, size)
    check_apex(places, apex)
    beside = rooms_beside(places, size, apex)
    if not 0 <= number < (1 << len(beside)):
        raise Mismatch("number")
    return filled(places, size, apex, [room for at, room in enumerate(beside) if (number >> at) & 1])


def even_book_count(places, size):
    """Return the number of even books of a size."""
    Book.empty(places, size)
    return 1 << len(rooms_beside(places, size, 0))


def walk_even_books(places, size, *, apex=0):
    """Yield all even books of a size, in the order of their numbers for the apex."""
    count = even_book_count(places, size)
    check_apex(places, apex)
    if count > MOST_WALKED:
        raise TooMany("books", MOST_WALKED)
    for number in range(count):
        yield numbered_book(places, size, number, apex)
