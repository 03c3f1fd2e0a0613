"""Chains: integers for the rooms of one size, with signs for rows in any order (points 8 to 11)."""

from neveralone.books import Book
from neveralone.errors import BadChain, Mismatch
from neveralone.masks import mask_of
from neveralone.rooms import MOST_PLACES, faces, order_sign, room_fault


class Chain:
    """The rooms of one degree that have a coefficient other than 0, in ascending order."""

    def __init__(self, places, degree, terms):
        fault, at = first_fault(places, degree, terms)
        if fault != "":
            raise BadChain(fault, at)
        self.places = places
        self.degree = degree
        self._table = added_up(terms)
        self.terms = tuple([(room, self._table[room]) for room in sorted(self._table)])

    @staticmethod
    def of_book(book):
        """Return the chain that gives the coefficient 1 to each room of the book."""
        return Chain(book.places, book.size, [(room, 1) for room in book.rooms])

    @classmethod
    def point(cls, places, place):
        """Return the chain that gives the coefficient 1 to the room of one place."""
        return cls(places, 1, [((place,), 1)])

    def __eq__(self, other):
        return (isinstance(other, Chain) and self.places == other.places
                and self.degree == other.degree and self.terms == other.terms)

    def __len__(self):
        return len(self.terms)

    def __iter__(self):
        return iter(self.terms)

    def __getitem__(self, at):
        """Return the coefficient of the room of the row `at`, times the order sign of the row."""
        room = tuple(sorted(at))
        if room not in self._table:
            return 0
        return self._table[room] * order_sign(at)

    def __neg__(self):
        return self.scaled(-1)

    def __add__(self, other):
        if not isinstance(other, Chain):
            return NotImplemented
        if self.places != other.places:
            raise Mismatch("places")
        if self.degree != other.degree:
            raise Mismatch("degree")
        return Chain(self.places, self.degree, self.terms + other.terms)

    def __sub__(self, other):
        if not isinstance(other, Chain):
            return NotImplemented
        return self + other.scaled(-1)

    def __rmul__(self, other):
        return self.scaled(other)

    def __mul__(self, other):
        if not isinstance(other, Chain):
            return NotImplemented
        if self.places != other.places:
            raise Mismatch("places")
        return Chain(self.places, self.degree + other.degree, product_rows(self.terms, other.terms))

    def __pow__(self, other):
        power = Chain(self.places, 0, [((), 1)])
        for _ in range(other):
            power = power * self
        return power

    def __lshift__(self, other):
        rows = [(tuple([place + other for place in room]), number) for room, number in self.terms]
        return Chain(self.places + other, self.degree, rows)

    def __abs__(self):
        return sum([abs(number) for _, number in self.terms])

    def scaled(self, number):
        """Return the chain with each coefficient multiplied by the number."""
        return Chain(self.places, self.degree, [(room, number * term) for room, term in self.terms])

    def boundary(self):
        """Return the chain of the faces, with signs that alternate along each room."""
        if self.degree == 0:
            raise Mismatch("degree")
        rows = []
        for room, number in self.terms:
            for at, face in enumerate(faces(room)):
                rows.append((face, -number if at & 1 else number))
        return Chain(self.places, self.degree - 1, rows)

    def mapped(self, places, images):
        """Return the chain over `places` places in which images[p] stands for the place p."""
        rows = [(tuple([images[place] for place in room]), number) for room, number in self.terms]
        return Chain(places, self.degree, [pair for pair in rows if len(set(pair[0])) == len(pair[0])])

    def odd_book(self):
        """Return the book of the rooms with an odd coefficient."""
        return Book(self.places, self.degree, [room for room, number in self.terms if number & 1])


def first_fault(places, degree, terms):
    """Return the first fault of the arguments of a chain with its index, or ("", 0)."""
    if not 1 <= places <= MOST_PLACES:
        return ("places", 0)
    if degree < 0:
        return ("degree", 0)
    for at, (row, _) in enumerate(terms):
        fault = room_fault(places, degree, row)
        if fault != "":
            return (fault, at)
    return ("", 0)


def added_up(terms):
    """Return the dict of the coefficients other than 0 that pairs (row, integer) add up to."""
    table = {}
    for row, number in terms:
        room = tuple(sorted(row))
        table[room] = table.get(room, 0) + number * order_sign(row)
    return {room: table[room] for room in table if table[room] != 0}


def product_rows(first, second):
    """Return the pairs (row, integer) that add up to the product of two lists of terms.

    A row has the places of two rooms one behind the other, so its order sign is their shuffle sign.
    """
    masked = [(mask_of(room), room, number) for room, number in second]
    rows = []
    for room, number in first:
        mine = mask_of(room)
        for mask, other, factor in masked:
            if mine & mask == 0:
                rows.append((room + other, number * factor))
    return rows
