"""Points 24 to 26."""

import itertools

from neveralone.books import Book
from neveralone.chains import Chain
from neveralone.errors import Mismatch, TooMany
from neveralone.families import Family
from neveralone.makers import all_rooms, ring_book
from neveralone.naming import (Renaming, inverse_images, renamed, renamed_chain, renamed_family, renamed_room,
                               renamed_row, renaming_between, symmetries)
from neveralone.partitions import list_partitions
from tests.support import Case, rooms_over, some_book, some_even_book, some_family, square_book

TURN = (1, 2, 3, 0)
WRONG = ([0, 1, 1, 3], [0, 1, 2, 4], [-1, 0, 1, 2], [1, 2, 3, 4], [0, 1, 2], [0, 1, 2, 3, 4], [], [3, 3, 3, 3],
         [0, 1, 2, 10 ** 30])
NO_RENAMINGS = ([0, 0], (1, 2), [-1, 0], [1], [0, 2], (0, 1, 1, 3), [10 ** 30])
IMAGE_FAULT = Mismatch("images")


def all_renamings(first, second):
    """Every renaming by which one book becomes another one, found by trying each."""
    rooms = set(second.rooms)
    return [images for images in itertools.permutations(range(first.places))
            if {tuple(sorted(images[p] for p in room)) for room in first.rooms} == rooms]


class Renamings(Case):
    def test_24_renamed_rooms_and_rows(self):
        self.assertEqual(renamed_room((0, 3), [1, 2, 3, 0]), (0, 1))
        self.assertEqual(renamed_room((1,), (2, 0, 1)), (0,))
        self.assertEqual(renamed_room((), (0,)), ())
        self.assertEqual(renamed_room((), ()), ())
        self.assertEqual(renamed_row([(2, 3), (0, 1)], TURN), ((0, 3), (1, 2)))
        self.assertEqual(renamed_row((), TURN), ())

    def test_24_renamed_books_chains_and_families(self):
        self.assertEqual(renamed(Book(4, 2, [(0, 1), (0, 3)]), TURN), Book(4, 2, [(1, 2), (0, 1)]))
        self.assertEqual(renamed(Book(4, 2, []), list(TURN)), Book(4, 2, []))
        chain = Chain(4, 2, [((0, 1), 5), ((0, 3), 7)])
        self.assertEqual(renamed_chain(chain, TURN), Chain(4, 2, [((1, 2), 5), ((0, 1), -7)]))
        first, second = Book(4, 2, [(0, 1), (0, 2), (1, 2)]), square_book()
        self.assertEqual(renamed_family(Family([first, second]), TURN),
                         Family([Book(4, 2, [(1, 2), (1, 3), (2, 3)]), second]))

    def test_24_images_that_are_no_renaming(self):
        for images in WRONG:
            for make in (list, tuple):
                told = make(images)
                self.assertFails(IMAGE_FAULT, renamed, square_book(), told)
                self.assertFails(IMAGE_FAULT, renamed, Book(4, 2, []), told)
                self.assertFails(IMAGE_FAULT, renamed_chain, Chain(4, 2, []), told)
                self.assertFails(IMAGE_FAULT, renamed_family, Family([square_book(), square_book()]), told)
        for images in NO_RENAMINGS:
            self.assertFails(IMAGE_FAULT, renamed_room, (), images)
            self.assertFails(IMAGE_FAULT, renamed_room, (0,), images)
            self.assertFails(IMAGE_FAULT, renamed_row, [], images)
            self.assertFails(IMAGE_FAULT, renamed_row, [(0,)], images)
            self.assertFails(IMAGE_FAULT, Renaming, images)
            self.assertFails(IMAGE_FAULT, inverse_images, images)

    def test_24_places_beyond_the_images(self):
        for place in (4, 5, 10 ** 30):
            self.assertFails(IMAGE_FAULT, renamed_room, (0, place), TURN)
            self.assertFails(IMAGE_FAULT, renamed_row, [(0, 1), (2, place)], TURN)
        self.assertFails(IMAGE_FAULT, renamed_room, (0,), ())
        self.assertEqual(renamed_room((0, 3), TURN), (0, 1))

    def test_25_renaming_commutes(self):
        for images in ((5, 3, 1, 0, 2, 4), (1, 2, 3, 4, 5, 0)):
            for seed in range(3):
                a, b, c = some_book(seed, 6, 2), some_book(-1 - seed, 6, 2), some_even_book(seed, 6, 2)
                self.assertEqual(renamed(a ^ b, images), renamed(a, images) ^ renamed(b, images))
                self.assertEqual(renamed(a * b, images), renamed(a, images) * renamed(b, images))
                self.assertEqual(renamed(a.boundary(), images), renamed(a, images).boundary())
                self.assertEqual((renamed(a, images).is_even, renamed(c, images).is_even), (a.is_even, True))
                for place in range(6):
                    self.assertEqual(renamed(a, images).link(images[place]), renamed(a.link(place), images))
                chain = Chain.of_book(a)
                self.assertEqual(renamed_chain(chain, images).boundary(), renamed_chain(chain.boundary(), images))
        self.assertTrue(renamed(ring_book(6, 4), (5, 3, 1, 0, 2, 4)).is_two_each)

    def test_25_partitions_of_a_renamed_family(self):
        for seed in range(4):
            family = some_family(seed, (2, 1, 3))
            images = (5, 3, 1, 0, 2, 4)
            rows = sorted(renamed_row(row, images) for row in list_partitions(family))
            self.assertEqual(list_partitions(renamed_family(family, images)), rows)

    def test_25_inverse(self):
        for images in itertools.permutations(range(4)):
            inverse = inverse_images(list(images))
            self.assertIs(type(inverse), tuple)
            self.assertEqual([inverse[images[place]] for place in range(4)], [0, 1, 2, 3])
            self.assertEqual(renamed(renamed(square_book(), images), inverse), square_book())
        self.assertEqual(inverse_images((1, 2, 0)), (2, 0, 1))
        self.assertEqual(inverse_images([]), ())


class RenamingObjects(Case):
    def test_24_fields_and_calls(self):
        images = [1, 2, 3, 0]
        turn = Renaming(images)
        images.reverse()
        self.assertEqual(turn.images, TURN)
        self.assertEqual(len(turn), 4)
        self.assertEqual([turn(place) for place in range(4)], [1, 2, 3, 0])
        self.assertTrue(turn == Renaming(TURN))
        self.assertFalse(turn == Renaming((1, 0, 2, 3)))
        self.assertFalse(turn == Renaming((1, 2, 3, 0, 4)))
        self.assertFalse(turn == TURN)
        self.assertEqual(Renaming(()).images, ())

    def test_24_products_and_inverses(self):
        for first in itertools.permutations(range(3)):
            self.assertEqual((~Renaming(first)).images, inverse_images(first))
            for second in itertools.permutations(range(3)):
                product = Renaming(first) * Renaming(second)
                self.assertEqual(product.images, tuple(second[first[place]] for place in range(3)))
        self.assertEqual((Renaming((1, 2, 0)) * Renaming((1, 0, 2))).images, (0, 2, 1))

    def test_24_products_of_different_numbers_of_places(self):
        for other in ((0, 1, 2), (0, 1, 2, 3, 4), ()):
            self.assertFails(IMAGE_FAULT, lambda: Renaming(TURN) * Renaming(other))
            self.assertFails(IMAGE_FAULT, lambda: Renaming(other) * Renaming(TURN))

    def test_24_powers(self):
        some = Renaming((1, 2, 0, 4, 3, 5))
        for base, step in ((some, some), (~some, ~some)):
            power = Renaming((0, 1, 2, 3, 4, 5))
            for k in range(9):
                exponent = k if base == some else -k
                self.assertEqual(some.powered(exponent), power)
                self.assertEqual(some ** exponent, power)
                power = power * step
        self.assertEqual(some.powered(6 * 10 ** 60 + 1), some)
        self.assertEqual(some.powered(-6 * 10 ** 60 - 1), ~some)
        self.assertEqual(some ** (10 ** 60 * 6), some ** 0)
        self.assertEqual(Renaming(()).powered(5), Renaming(()))


class Finding(Case):
    def test_26_renamings_between_books(self):
        for places, size in ((1, 1), (3, 2), (4, 2), (5, 2), (5, 3)):
            for seed in range(6):
                first, second = some_book(seed, places, size), some_book(seed + 1, places, size)
                found = all_renamings(first, second)
                self.assertEqual(renaming_between(first, second), found[0] if found else None)
                moved = renamed(first, tuple(range(places))[::-1])
                self.assertEqual(renaming_between(first, moved), all_renamings(first, moved)[0])

    def test_26_symmetries(self):
        for book in [some_book(seed, 5, size) for seed in range(4) for size in (1, 2, 3, 5)]:
            self.assertEqual(symmetries(book), all_renamings(book, book))
        self.assertEqual(symmetries(Book(1, 1, [])), [(0,)])
        self.assertEqual(len(symmetries(Book(5, 2, []))), 120)
        self.assertEqual(symmetries(Book(3, 2, [(0, 2)])), [(0, 1, 2), (2, 1, 0)])

    def test_26_books_that_no_renaming_leads_to(self):
        self.assertIsNone(renaming_between(Book(4, 2, []), Book(5, 2, [])))
        self.assertIsNone(renaming_between(Book(4, 2, []), Book(12, 2, [])))
        self.assertIsNone(renaming_between(Book(4, 2, []), Book(4, 3, [])))
        self.assertIsNone(renaming_between(Book(4, 2, [(0, 1)]), Book(4, 2, [])))
        self.assertIsNone(renaming_between(Book(4, 2, []), Book(4, 2, [(0, 1)])))
        path, star = Book(4, 2, [(0, 1), (1, 2), (2, 3)]), Book(4, 2, [(0, 1), (0, 2), (0, 3)])
        self.assertIsNone(renaming_between(path, star))
        self.assertIsNone(renaming_between(Book(4, 2, [(0, 1), (1, 2)]), star))
        self.assertIsNone(renaming_between(star, Book(4, 2, [(0, 1), (0, 2)])))
        self.assertEqual(renaming_between(Book(4, 2, []), Book(4, 2, [])), (0, 1, 2, 3))

    def test_26_seven_and_eight_places(self):
        self.assertEqual(len(symmetries(ring_book(7, 2))), 14)
        self.assertEqual(len(symmetries(all_rooms(7, 3))), 5040)
        self.assertEqual(renaming_between(ring_book(7, 4), ring_book(7, 4)), (0, 1, 2, 3, 4, 5, 6))
        for places in (8, 12):
            self.assertFails(TooMany("places", 7), symmetries, Book(places, 2, []))
            self.assertFails(TooMany("places", 7), renaming_between, Book(places, 2, []), Book(4, 3, []))
            self.assertFails(TooMany("places", 7), renaming_between, Book(places, 2, []), Book(places, 2, []))

    def test_1_lists_are_new(self):
        symmetries(square_book()).clear()
        self.assertEqual(len(symmetries(square_book())), 8)
        images = [1, 2, 3, 0]
        renamed(square_book(), images), renamed_room((0,), images), inverse_images(images), Renaming(images)
        self.assertEqual(images, [1, 2, 3, 0])
        self.assertEqual(len(rooms_over(4, 2)), 6)
