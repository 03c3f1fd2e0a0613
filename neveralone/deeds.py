"""What deeds do to the books and the kept paths of a desk (points 133, 134 and 136).

A state is a pair (books, kept paths), and a kept path is a triple (target, start, steps).
"""

from neveralone.errors import BadDeed
from neveralone.families import Family
from neveralone.filling import even_book_count, numbered_book
from neveralone.makers import boundary_book
from neveralone.naming import renamed, renamed_row
from neveralone.partitions import partition_fault
from neveralone.paths import exchanges

DEED_ITEMS = {"toggle": 3, "number": 3, "rename": 2, "keep": 3, "drop": 2}


def done_deed(state, deed):
    """Return the deed in the form of the journal and the state behind it, or raise BadDeed."""
    books, kept = state
    fault = deed_fault(books, kept, deed)
    if fault != "":
        raise BadDeed(fault)
    plain = journal_form(deed)
    return (plain, state_behind(books, kept, plain))


def deed_fault(books, kept, deed):
    """Return the first fault of a deed, or an empty string."""
    if len(deed) == 0 or DEED_ITEMS.get(deed[0]) != len(deed):
        return "kind"
    word = deed[0]
    if word in ("toggle", "number") and not 0 <= deed[1] < len(books):
        return "book"
    if word == "toggle" and not are_corners(books[deed[1]], deed[2]):
        return "corners"
    if word == "number" and not has_number(books[deed[1]], deed[2]):
        return "number"
    if word == "rename" and sorted(deed[1]) != list(range(books[0].places)):
        return "images"
    if word == "keep" and not 0 <= deed[1] < books[0].places:
        return "target"
    if word == "keep" and partition_fault(Family(books), deed[2]) != "":
        return "row"
    if word == "drop" and not 0 <= deed[1] < len(kept):
        return "kept"
    return ""


def are_corners(book, corners):
    """Tell whether corners are a room with one place more than the rooms of the book."""
    return (len(corners) == book.size + 1 and all([0 <= place < book.places for place in corners])
            and all([corners[at] < corners[at + 1] for at in range(book.size)]))


def has_number(book, number):
    """Tell whether an even book like this one has the number for the apex 0."""
    return 0 <= number < even_book_count(book.places, book.size)


def journal_form(deed):
    """Return a deed as a tuple, with a tuple for its corners, its images or its row."""
    if deed[0] == "rename":
        return ("rename", tuple(deed[1]))
    if deed[0] in ("toggle", "keep"):
        return (deed[0], deed[1], tuple(deed[2]))
    return tuple(deed)


def state_behind(books, kept, deed):
    """Return the state behind a deed without a fault."""
    word = deed[0]
    if word == "toggle":
        book = books[deed[1]]
        return (exchanged_at(books, deed[1], book ^ boundary_book(book.places, deed[2])), kept)
    if word == "number":
        book = books[deed[1]]
        return (exchanged_at(books, deed[1], numbered_book(book.places, book.size, deed[2])), kept)
    if word == "rename":
        images = deed[1]
        return (tuple([renamed(book, images) for book in books]), tuple([renamed_path(path, images) for path in kept]))
    if word == "keep":
        steps = tuple(exchanges(Family(books), deed[2], deed[1]))
        return (books, kept + ((deed[1], deed[2], steps),))
    return (books, kept[:deed[1]] + kept[deed[1] + 1:])


def exchanged_at(books, at, book):
    """Return the tuple of books in which the one with the index is replaced."""
    return books[:at] + (book,) + books[at + 1:]


def renamed_path(path, images):
    """Return the kept path whose places have new names."""
    target, start, steps = path
    moved = [(at, images[leaving], images[entering]) for at, leaving, entering in steps]
    return (images[target], renamed_row(start, images), tuple(moved))
