"""Books that are made from little: all rooms, boundaries, rings, labels, crosses (points 27 to 31)."""

from neveralone.books import Book
from neveralone.errors import BadBook, BadLabels, Mismatch
from neveralone.rooms import MOST_PLACES, complement, subsets


def rooms_of_size(places, size):
    """Return the ascending list of all rooms of a size, or raise BadBook."""
    Book.empty(places, size)
    return subsets(tuple(range(places)), size)


def all_rooms(places, size):
    """Return the book of all rooms of a size."""
    return Book(places, size, rooms_of_size(places, size))


def boundary_book(places, corners):
    """Return the book of the rooms that lack exactly one of the corners."""
    if len(corners) < 2:
        raise Mismatch("size")
    return Book(places, len(corners), [corners]).boundary()


def ring_book(places, size):
    """Return the book of the rooms all of whose runs on the ring have an even length."""
    if size % 2 == 1 or not 2 <= size < places:
        raise Mismatch("size")
    rooms = rooms_of_size(places, size)
    return Book(places, size, [room for room in rooms if has_even_runs(places, room)])


def has_even_runs(places, room):
    """Tell whether all runs of a room with fewer places than the ring have an even length."""
    outside = complement(places, room)
    # Each run fills a gap between two places outside; the ring closes with the first one again.
    stops = outside + (outside[0] + places,)
    return all([(stops[at + 1] - stops[at]) & 1 for at in range(len(outside))])


def label_book(labels, kinds):
    """Return the book of the rooms that have all places but one of each label."""
    check_labels(labels, kinds)
    places = len(labels)
    if places > MOST_PLACES:
        raise BadBook("places", 0)
    groups = [[at for at in range(places) if labels[at] == label] for label in range(1, kinds + 1)]
    return Book(places, places - kinds, [complement(places, row) for row in one_of_each(groups)])


def check_labels(labels, kinds):
    """Raise BadLabels if a label is no label, or if one of them is not used."""
    if not 1 <= kinds < len(labels):
        raise BadLabels("kinds", kinds)
    for at, label in enumerate(labels):
        if not 1 <= label <= kinds:
            raise BadLabels("label", at)
    for label in range(1, kinds + 1):
        if label not in labels:
            raise BadLabels("unused", label)


def one_of_each(groups):
    """Return all rows with one item of each group, in order."""
    rows = [()]
    for group in groups:
        rows = [row + (item,) for row in rows for item in group]
    return rows


def cross_book(places, pairs):
    """Return the book of the rooms that have one place of each pair and no other place."""
    if len(pairs) == 0 or any([len(pair) != 2 for pair in pairs]):
        raise Mismatch("pairs")
    ends = [place for pair in pairs for place in pair]
    if len(set(ends)) != len(ends):
        raise Mismatch("pairs")
    # The pairs are checked as rooms of a book, which names their faults.
    Book(places, 2, pairs)
    return Book(places, len(pairs), one_of_each(pairs))


def join(*books):
    """Return the join of one or more books."""
    if len(books) == 0:
        raise Mismatch("none")
    joined = books[0]
    for book in books[1:]:
        joined = joined * book
    return joined


def total(*books):
    """Return the sum of one or more books."""
    if len(books) == 0:
        raise Mismatch("none")
    summed = books[0]
    for book in books[1:]:
        summed = summed ^ book
    return summed
