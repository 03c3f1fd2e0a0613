"""What several tests share: plain counting without the program, and checks of errors."""

import itertools
import random
import unittest

from neveralone.books import Book
from neveralone.errors import NeverAloneError
from neveralone.families import Family


def rooms_over(places, size):
    return list(itertools.combinations(range(places), size))


def odd_ones(rows):
    """The rows that occur an odd number of times, ascending."""
    return sorted(row for row in set(rows) if rows.count(row) % 2 == 1)


def odd_faces_of(rooms):
    return odd_ones([room[:at] + room[at + 1:] for room in rooms for at in range(len(room))])


def inversions(row):
    return sum(1 for first, second in itertools.combinations(row, 2) if first > second)


def sign(row):
    return (-1) ** inversions(row)


def some_book(seed, places, size):
    """A book of about half of all rooms, the same one for the same seed."""
    chance = random.Random(f"{seed} {places} {size}")
    return Book(places, size, [room for room in rooms_over(places, size) if chance.random() < 0.5])


def some_even_book(seed, places, size):
    """An even book: the odd faces of some larger rooms."""
    if size == places:
        return Book(places, size, [])
    return Book(places, size, odd_faces_of(list(some_book(seed, places, size + 1).rooms)))


def some_family(seed, sizes):
    return Family([some_even_book(f"{seed} {at}", sum(sizes), size) for at, size in enumerate(sizes)])


def all_families(sizes, seeds):
    return [some_family(seed, sizes) for seed in seeds]


def square_book():
    """The even book over 4 places that DOC.md uses as its example."""
    return Book(4, 2, [(0, 1), (0, 3), (1, 2), (2, 3)])


def partitions_of(family):
    """All partitions, found by trying each choice of rooms."""
    everything = list(range(family.places))
    rows = itertools.product(*[book.rooms for book in family.books])
    return [row for row in rows if sorted(itertools.chain(*row)) == everything]


class Case(unittest.TestCase):
    def assertFails(self, error, call, *given, **named):
        """The call raises an error of exactly this class with exactly these fields."""
        with self.assertRaises(NeverAloneError) as caught:
            call(*given, **named)
        self.assertIs(type(caught.exception), type(error))
        self.assertEqual(vars(caught.exception), vars(error))
        self.assertIsInstance(caught.exception, ValueError)
