"""What several tests share: plain counting without the program, and checks of errors."""

import itertools
import math
import random
import unittest

from neveralone.books import Book
from neveralone.chains import Chain
from neveralone.errors import NeverAloneError
from neveralone.families import Family
from neveralone.rules import Rule


def rooms_over(places, size):
    return list(itertools.combinations(range(places), size))


def odd_ones(rows):
    """The rows that occur an odd number of times, ascending."""
    return sorted(row for row in set(rows) if rows.count(row) % 2 == 1)


def odd_faces_of(rooms):
    return odd_ones([room[:at] + room[at + 1:] for room in rooms for at in range(len(room))])


def inversions(row):
    return sum(1 for first, second in itertools.combinations(row, 2) if first > second)


def sign(row):
    return (-1) ** inversions(row)


def some_book(seed, places, size):
    """A book of about half of all rooms, the same one for the same seed."""
    chance = random.Random(f"{seed} {places} {size}")
    return Book(places, size, [room for room in rooms_over(places, size) if chance.random() < 0.5])


def some_even_book(seed, places, size):
    """An even book: the odd faces of some larger rooms."""
    if size == places:
        return Book(places, size, [])
    return Book(places, size, odd_faces_of(list(some_book(seed, places, size + 1).rooms)))


def some_family(seed, sizes):
    return Family([some_even_book(f"{seed} {at}", sum(sizes), size) for at, size in enumerate(sizes)])


def all_families(sizes, seeds):
    return [some_family(seed, sizes) for seed in seeds]


def square_book():
    """The even book over 4 places that DOC.md uses as its example."""
    return Book(4, 2, [(0, 1), (0, 3), (1, 2), (2, 3)])


def partitions_of(family):
    """All partitions, found by trying each choice of rooms."""
    everything = list(range(family.places))
    rows = itertools.product(*[book.rooms for book in family.books])
    return [row for row in rows if sorted(itertools.chain(*row)) == everything]


def ones(many):
    """The family of so many books of all rooms of size 1; its partitions are all orders of the places."""
    return Family([Book(many, 1, [(place,) for place in range(many)])] * many)


def squares():
    """The family that DOC.md uses as its example."""
    return Family([square_book(), square_book()])


def near_of(family, target):
    """All near partitions for a target, found by trying each choice of rooms."""
    wanted = [place for place in range(family.places) if place != target]
    rows = itertools.product(*[book.rooms for book in family.books])
    return [row for row in rows if sorted(set(itertools.chain(*row))) == wanted]


def lots_of(book):
    """All lots of a book, found by trying each set of rooms."""
    everything = list(range(book.places))
    rows = itertools.combinations(book.rooms, book.places // book.size)
    return [row for row in rows if sorted(itertools.chain(*row)) == everything]


def partner_of(book, order, face, room):
    """The partner of a room at a face as an order says, found by counting."""
    rooms = [other for other in book.rooms if set(face) < set(other)]
    at, many = rooms.index(room), len(rooms)
    if order == "next":
        return rooms[at + 1 if at % 2 == 0 else at - 1]
    if order == "ends":
        return rooms[many - 1 - at]
    return rooms[(at + many // 2) % many]


def plain_path(family, row, target, partner):
    """The points of a path; partner(at, face, room) tells the partners in the book with the index."""
    points, came, leaving = [tuple(row)], None, target
    while len(points) == 1 or leaving != target:
        row = points[-1]
        at = next(at for at, room in enumerate(row) if leaving in room and at != came)
        face = tuple(place for place in row[at] if place != leaving)
        room = partner(at, face, row[at])
        leaving, = set(room) - set(face)
        came = at
        points.append(row[:at] + (room,) + row[at + 1:])
    return points


def order_path(family, row, target, order="next"):
    """The points of a path by one order at all books."""
    return plain_path(family, row, target, lambda at, face, room: partner_of(family[at], order, face, room))


def steps_between(points):
    """The exchanges that lead along some points."""
    steps = []
    for row, after in zip(points, points[1:]):
        at, = [at for at in range(len(row)) if row[at] != after[at]]
        left, = set(row[at]) - set(after[at])
        came, = set(after[at]) - set(row[at])
        steps.append((at, left, came))
    return steps


def crossed_plane():
    """The ten triangles of the projective plane with six places: two-each, but without signs."""
    return Book(6, 3, [(0, 1, 2), (0, 2, 3), (0, 3, 4), (0, 4, 5), (0, 1, 5), (1, 2, 4), (2, 3, 5), (1, 3, 4),
                       (2, 4, 5), (1, 3, 5)])


class Endless(Rule):
    """No proper rule: over 4 places of rooms of size 1 it leads around the places 1, 2 and 3 for ever."""

    def __call__(self, face, room):
        return ((1, 2, 3, 1)[room[0]],)


def some_signed(seed, places, degree):
    """A signed book with rooms: the boundary of some larger rooms with signs."""
    chance = random.Random(f"{seed} {places} {degree}")
    while True:
        rooms = chance.sample(rooms_over(places, degree + 1), chance.randint(1, min(6, math.comb(places, degree + 1))))
        terms = {}
        for room in rooms:
            turn = chance.choice((1, -1))
            for at in range(degree + 1):
                face = room[:at] + room[at + 1:]
                terms[face] = terms.get(face, 0) + turn * (-1) ** at
        if set(map(abs, terms.values())) <= {0, 1} and any(terms.values()):
            return Chain(places, degree, list(terms.items()))


def all_signed(sizes, seeds):
    """Lists of signed books whose odd books are families."""
    return [[some_signed(f"{seed} {at}", sum(sizes), size) for at, size in enumerate(sizes)] for seed in seeds]


def sign_in(chains, row):
    """The sign of a partition, taken from the terms of the chains."""
    product = sign([place for room in row for place in room])
    for chain, room in zip(chains, row):
        product *= dict(chain.terms)[room]
    return product


def plain_determinant(rows):
    """The determinant as the sum over all orders of the columns."""
    orders = itertools.permutations(range(len(rows)))
    return sum(sign(order) * math.prod(rows[at][column] for at, column in enumerate(order)) for order in orders)


def sign_of_number(number):
    return (number > 0) - (number < 0)


class Case(unittest.TestCase):
    def assertFails(self, error, call, *given, **named):
        """The call raises an error of exactly this class with exactly these fields."""
        with self.assertRaises(NeverAloneError) as caught:
            call(*given, **named)
        self.assertIs(type(caught.exception), type(error))
        self.assertEqual(vars(caught.exception), vars(error))
        self.assertIsInstance(caught.exception, ValueError)
