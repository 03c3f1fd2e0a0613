"""Labels of places: full rooms, full faces, and the paths between them (points 72 to 78)."""

from neveralone.books import Book
from neveralone.errors import BadLabels, Mismatch, NotARoom
from neveralone.families import Family
from neveralone.makers import label_book
from neveralone.paths import mate
from neveralone.points import check_target
from neveralone.rooms import complement, order_sign, without
from neveralone.rules import Rule


def check_number_of_labels(places, labels):
    """Raise BadLabels if there is not one label for each place."""
    if len(labels) != places:
        raise BadLabels("count", len(labels))


def check_place_labels(places, labels, most):
    """Raise BadLabels if there is not one label from 1 to `most` for each place."""
    check_number_of_labels(places, labels)
    for at, label in enumerate(labels):
        if not 1 <= label <= most:
            raise BadLabels("label", at)


def labels_of(room, labels):
    """Return the list of the labels of the places of a room, in order."""
    return [labels[place] for place in room]


def full_rooms(book, labels):
    """Return the ascending list of the rooms that have each label from 1 to the size once."""
    check_place_labels(book.places, labels, book.size)
    wanted = list(range(1, book.size + 1))
    return [room for room in book.rooms if sorted(labels_of(room, labels)) == wanted]


def label_family(book, labels):
    """Return the family of a book and of the label book of its labels."""
    check_number_of_labels(book.places, labels)
    return Family([book, label_book(labels, book.size)])


def signed_full_count(chain, labels):
    """Return the sum of the coefficients of the full rooms, times the order signs of their labels."""
    check_place_labels(chain.places, labels, chain.degree)
    # No room has more places than the chain, so none of a greater degree is full.
    wanted = list(range(1, min(chain.degree, chain.places) + 1))
    told = [(labels_of(room, labels), number) for room, number in chain.terms]
    return sum([number * order_sign(row) for row, number in told if sorted(row) == wanted])


def closed_book(book):
    """Return the even book that has one place more, and with it the odd faces."""
    closing = [face + (book.places,) for face in book.odd_faces()]
    return Book(book.places + 1, book.size, list(book.rooms) + closing)


def full_faces(book, labels, missing):
    """Return the ascending list of the odd faces that have each label but the missing one once."""
    check_place_labels(book.places, labels, book.size)
    if not 1 <= missing <= book.size:
        raise Mismatch("missing")
    wanted = [label for label in range(1, book.size + 1) if label != missing]
    return [face for face in book.odd_faces() if sorted(labels_of(face, labels)) == wanted]


def another_full(book, labels, room, target, *, order="next"):
    """Return the full room at the other end of the path of a full room."""
    family = label_family(book, labels)
    if room not in full_rooms(book, labels):
        raise NotARoom(room)
    check_target(book.places, target)
    rules = [Rule(one, order) for one in family.books]
    return mate(family, (room, complement(book.places, room)), target, rules)[0]


def rim_mate(book, labels, start, *, missing):
    """Return the full room or full face that is paired with a full room or full face of any book."""
    ends = full_faces(book, labels, missing) + full_rooms(book, labels)
    if start not in ends:
        raise NotARoom(start)
    closed = closed_book(book)
    added = book.places
    room = start if len(start) == book.size else start + (added,)
    return without(another_full(closed, list(labels) + [missing], room, added), added)
