"""Families: even books whose sizes add up to the number of places (point 12)."""

from neveralone.errors import BadFamily, NotEven
from neveralone.faults import family_faults


class Family:
    """One or more even books over the same places."""

    def __init__(self, books):
        found = family_faults(books)
        if len(found) > 0:
            fault, at = found[0]
            if fault == "odd":
                raise NotEven(at, books[at].odd_faces()[0])
            raise BadFamily(fault, at)
        self.places = books[0].places
        self.books = tuple(books)

    def __eq__(self, other):
        return isinstance(other, Family) and self.books == other.books

    def __len__(self):
        return len(self.books)

    def __getitem__(self, at):
        return self.books[at]

    def __iter__(self):
        return iter(self.books)

    def replaced(self, at, book):
        """Return the family in which the book at the index is replaced."""
        return Family(self.books[:at] + (book,) + self.books[at + 1:])
