"""Ledgers, which certify numbers of partitions, and other counts (points 41 to 44)."""

from neveralone.books import Book
from neveralone.errors import BadPaper, Mismatch
from neveralone.families import Family
from neveralone.makers import join
from neveralone.masks import fill_tables, room_of
from neveralone.partitions import count_rows, room_lists
from neveralone.rooms import MOST_PLACES


def ledger(family):
    """Return the lists of pairs (room, number) for the unions of rooms of the first books."""
    tables = fill_tables(room_lists(family))
    return [sorted([(room_of(mask), table[mask]) for mask in table]) for table in tables]


def check_ledger(family, told):
    """Return the number of partitions that a right ledger tells, or raise BadPaper."""
    right = ledger(family)
    if len(told) != len(right):
        raise BadPaper(len(told), "count")
    for at, pairs in enumerate(right):
        if list(told[at]) != pairs:
            raise BadPaper(at, "entry")
    return sum([number for _, number in right[-1]])


def parity(family):
    """Return the number of rooms of the join of all books."""
    return len(join(*family.books))


def counts_by_place(family, place):
    """Return for each book the number of partitions whose room of this book has the place."""
    counts = []
    for at, book in enumerate(family.books):
        lists = room_lists(family)
        lists[at] = [room for room in book.rooms if place in room]
        counts.append(count_rows(family.places, lists))
    return counts


def join_families(first, second):
    """Return the family of the books of the first family and of the moved books of the second one."""
    places = first.places + second.places
    if places > MOST_PLACES:
        raise Mismatch("places")
    books = [Book(places, book.size, book.rooms) for book in first.books]
    return Family(books + [moved(book, places, first.places) for book in second.books])


def moved(book, places, by):
    """Return the book over `places` places in which each place is greater by `by`."""
    return Book(places, book.size, [tuple([place + by for place in room]) for room in book.rooms])
