"""Points 72 to 78."""

import itertools
import random

from neveralone.books import Book
from neveralone.chains import Chain
from neveralone.errors import BadBook, BadLabels, BadRule, Mismatch, NotARoom, NotEven
from neveralone.families import Family
from neveralone.labels import (another_full, closed_book, full_faces, full_rooms, label_family, rim_mate,
                               signed_full_count)
from neveralone.makers import all_rooms, label_book, ring_book
from neveralone.rules import Rule
from tests.support import (Case, odd_faces_of, order_path, partitions_of, rooms_over, sign, some_book, some_even_book,
                           some_signed, square_book)

SHAPES = ((5, 2), (6, 3), (4, 1), (7, 4), (5, 4), (3, 2))
ODD = Book(4, 2, [(1, 2), (1, 3), (0, 3)])


def some_labels(seed, places, kinds):
    """Labels of which each one is used."""
    chance = random.Random(f"{seed} {places} {kinds}")
    labels = list(range(1, kinds + 1)) + [chance.randint(1, kinds) for _ in range(places - kinds)]
    chance.shuffle(labels)
    return labels


def with_labels(rooms, labels, wanted):
    return [room for room in rooms if sorted(labels[place] for place in room) == list(wanted)]


def rest_of(places, room):
    return tuple(place for place in range(places) if place not in room)


class FullRooms(Case):
    def test_72_full_rooms(self):
        for places, size in SHAPES:
            for seed in range(4):
                labels = some_labels(seed, places, size)
                for book in (some_book(seed, places, size), some_even_book(seed, places, size)):
                    full = with_labels(book.rooms, labels, range(1, size + 1))
                    self.assertEqual(full_rooms(book, labels), full)
                    self.assertEqual(full_rooms(book, tuple(labels)), full)
                    self.assertEqual(len(full) % 2 if book.is_even else 0, 0)

    def test_72_examples(self):
        self.assertEqual(full_rooms(all_rooms(4, 2), [1, 2, 2, 1]), [(0, 1), (0, 2), (1, 3), (2, 3)])
        self.assertEqual(full_rooms(all_rooms(4, 1), [1] * 4), [(0,), (1,), (2,), (3,)])
        self.assertEqual(full_rooms(Book(3, 3, [(0, 1, 2)]), [3, 1, 2]), [(0, 1, 2)])
        self.assertEqual(full_rooms(Book(3, 2, []), [1, 2, 1]), [])

    def test_72_labels_that_no_place_has(self):
        self.assertEqual(full_rooms(all_rooms(4, 2), [1, 1, 1, 1]), [])
        self.assertEqual(full_faces(ODD, [2, 2, 2, 2], 2), [])
        self.assertEqual(full_faces(Book(4, 2, [(0, 1)]), [2, 2, 2, 2], 1), [(0,), (1,)])

    def test_72_errors_in_their_order(self):
        for call in (full_rooms, lambda book, labels: full_faces(book, labels, 9), lambda book, labels:
                     rim_mate(book, labels, (9, 9), missing=9)):
            for labels in ([], [1], [1, 2, 1], [9, 9, 9], [1, 2, 1, 2, 9]):
                self.assertFails(BadLabels("count", len(labels)), call, ODD, labels)
                self.assertFails(BadLabels("count", len(labels)), call, square_book(), tuple(labels))
            for labels, at in (([0, 1, 2, 2], 0), ([1, 3, 2, 9], 1), ([1, 2, 1, -1], 3), ([1, 1, 10 ** 30, 1], 2)):
                self.assertFails(BadLabels("label", at), call, ODD, labels)
                self.assertFails(BadLabels("label", at), call, square_book(), labels)

    def test_1_lists_are_new(self):
        labels = [1, 2, 1, 2]
        full_rooms(square_book(), labels).clear()
        self.assertEqual((len(full_rooms(square_book(), labels)), labels), (4, [1, 2, 1, 2]))


class Families(Case):
    def test_73_partitions_are_full_rooms_with_their_complements(self):
        for places, size in SHAPES:
            for seed in range(3):
                labels, book = some_labels(seed, places, size), some_even_book(seed, places, size)
                family = label_family(book, labels)
                self.assertEqual(family, Family([book, label_book(labels, size)]))
                self.assertEqual(label_family(book, tuple(labels)), family)
                self.assertEqual(partitions_of(family), [(room, rest_of(places, room)) for room in
                                                         full_rooms(book, labels)])

    def test_73_errors_in_their_order(self):
        whole = Book(3, 3, [(0, 1, 2)])
        for call in (label_family, lambda book, labels: another_full(book, labels, (9,), 9, order="none")):
            self.assertFails(BadLabels("count", 2), call, whole, [9, 9])
            self.assertFails(BadLabels("count", 5), call, ODD, [9] * 5)
            self.assertFails(BadLabels("count", 0), call, ODD, [])
            self.assertFails(BadLabels("kinds", 3), call, whole, [9, 9, 9])
            self.assertFails(BadLabels("kinds", 3), call, Book(3, 3, []), [1, 2, 3])
            self.assertFails(BadLabels("label", 1), call, ODD, [1, 3, 1, 1])
            self.assertFails(BadLabels("label", 3), call, square_book(), [1, 1, 1, 0])
            self.assertFails(BadLabels("unused", 1), call, ODD, [2, 2, 2, 2])
            self.assertFails(BadLabels("unused", 2), call, square_book(), [1, 1, 1, 1])
            self.assertFails(NotEven(0, (0,)), call, ODD, [1, 2, 1, 2])


class Counts(Case):
    def plain_count(self, chain, labels):
        full = with_labels(dict(chain.terms), labels, range(1, chain.degree + 1))
        return sum(dict(chain.terms)[room] * sign([labels[place] for place in room]) for room in full)

    def test_74_any_chains(self):
        for places, degree in SHAPES:
            for seed in range(4):
                chance = random.Random(seed)
                chain = Chain(places, degree, [(room, chance.randint(-3, 3)) for room in rooms_over(places, degree)])
                labels = some_labels(seed, places, degree)
                self.assertEqual(signed_full_count(chain, labels), self.plain_count(chain, labels))
                self.assertEqual(signed_full_count(chain, tuple(labels)), self.plain_count(chain, labels))
        self.assertEqual(signed_full_count(Chain(3, 2, [((0, 2), 10 ** 30), ((0, 1), 5)]), [2, 2, 1]), -10 ** 30)
        self.assertEqual(signed_full_count(Chain(3, 2, [((0, 2), 4), ((1, 2), 5)]), [1, 1, 2]), 9)

    def test_74_it_is_0_for_chains_whose_boundary_has_no_terms(self):
        for places, degree in ((5, 2), (6, 3), (4, 1), (7, 4), (5, 4)):
            for seed in range(6):
                chain, labels = some_signed(seed, places, degree), some_labels(seed, places, degree)
                self.assertEqual(signed_full_count(chain, labels), 0)
                self.assertEqual(signed_full_count(3 * chain, labels), 0)

    def test_74_degrees_beyond_the_places(self):
        for degree in (5, 60, 10 ** 30):
            self.assertEqual(signed_full_count(Chain(4, degree, []), [1, 2, 3, 4]), 0)
            self.assertEqual(signed_full_count(Chain(4, degree, []), [degree, 2, 1, 1]), 0)
            self.assertFails(BadLabels("label", 1), signed_full_count, Chain(4, degree, []), [1, degree + 1, 0, 1])

    def test_74_errors_in_their_order(self):
        chain = Chain(4, 2, [((0, 1), 1)])
        for labels in ([], [9, 9, 9], [1, 2, 1, 2, 9]):
            self.assertFails(BadLabels("count", len(labels)), signed_full_count, chain, labels)
            self.assertFails(BadLabels("count", len(labels)), signed_full_count, Chain(4, 0, [((), 1)]), labels)
        self.assertFails(BadLabels("label", 1), signed_full_count, chain, [1, 3, 0, 1])
        # With degree 0 no label is right, and each chain has a place.
        for labels in ([1, 1, 1, 1], [0, 0, 0, 0]):
            self.assertFails(BadLabels("label", 0), signed_full_count, Chain(4, 0, [((), 1)]), labels)


class Closed(Case):
    def test_75_the_odd_faces_get_the_new_place(self):
        for places, size in SHAPES + ((1, 1), (4, 4)):
            for seed in range(3):
                book = some_book(seed, places, size)
                closed = closed_book(book)
                faces = odd_faces_of(list(book.rooms))
                self.assertEqual(closed, Book(places + 1, size, list(book.rooms) + [face + (places,) for face in faces]))
                self.assertTrue(closed.is_even)

    def test_75_examples(self):
        self.assertEqual(closed_book(square_book()), Book(5, 2, square_book().rooms))
        self.assertEqual(closed_book(Book(3, 1, [(1,)])), Book(4, 1, [(1,), (3,)]))
        self.assertEqual(closed_book(Book(2, 2, [(0, 1)])), Book(3, 2, [(0, 1), (0, 2), (1, 2)]))

    def test_75_11_and_12_places(self):
        self.assertEqual(closed_book(Book(11, 2, [(0, 1)])), Book(12, 2, [(0, 1), (0, 11), (1, 11)]))
        for book in (Book(12, 2, [(0, 1)]), ring_book(12, 4), Book(12, 12, [])):
            self.assertFails(BadBook("places", 0), closed_book, book)


class FullFaces(Case):
    def test_76_full_faces(self):
        for places, size in SHAPES:
            for seed in range(4):
                labels, book = some_labels(seed, places, size), some_book(seed, places, size)
                for missing in range(1, size + 1):
                    wanted = [label for label in range(1, size + 1) if label != missing]
                    faces = with_labels(odd_faces_of(list(book.rooms)), labels, wanted)
                    self.assertEqual(full_faces(book, labels, missing), faces)
                    self.assertEqual(len(faces) % 2, len(full_rooms(book, labels)) % 2)

    def test_76_books_of_size_1(self):
        self.assertEqual(full_faces(Book(3, 1, [(0,), (2,), (1,)]), [1, 1, 1], 1), [()])
        self.assertEqual(full_faces(Book(3, 1, [(0,), (2,)]), [1, 1, 1], 1), [])

    def test_76_a_missing_label_that_is_none(self):
        for missing in (0, 3, -1, 10 ** 30):
            self.assertFails(Mismatch("missing"), full_faces, ODD, [1, 2, 1, 2], missing)
            self.assertFails(Mismatch("missing"), rim_mate, ODD, [1, 2, 1, 2], (9, 9), missing=missing)
            self.assertFails(Mismatch("missing"), rim_mate, Book(12, 2, []), [1, 2] * 6, (9, 9), missing=missing)


class AnotherFull(Case):
    def test_77_the_mate_in_the_label_family(self):
        seen = 0
        for places, size in SHAPES:
            for seed in range(3):
                labels, book = some_labels(seed, places, size), some_even_book(seed, places, size)
                for room, target, order in itertools.product(full_rooms(book, labels), range(places), Rule.ORDERS):
                    row = (room, rest_of(places, room))
                    other = order_path(label_family(book, labels), row, target, order)[-1][0]
                    self.assertEqual(another_full(book, labels, room, target, order=order), other)
                    self.assertEqual(another_full(book, tuple(labels), other, target, order=order), room)
                    self.assertNotEqual(other, room)
                    self.assertIn(other, full_rooms(book, labels))
                    seen += 1
        self.assertGreater(seen, 200)

    def test_77_the_default_order_is_next(self):
        book, labels = all_rooms(6, 1), [1] * 6
        self.assertEqual([another_full(book, labels, (place,), 0) for place in range(6)],
                         [another_full(book, labels, (place,), 0, order="next") for place in range(6)])
        self.assertEqual([another_full(book, labels, (0,), 0, order=order) for order in Rule.ORDERS], [(1,), (5,), (3,)])
        with self.assertRaises(TypeError):
            another_full(book, labels, (0,), 0, "next")

    def test_77_errors_in_their_order(self):
        book, labels = square_book(), [1, 2, 2, 1]
        self.assertEqual(full_rooms(book, labels), [(0, 1), (2, 3)])
        for room in ((0, 3), (1, 2), (0, 2), (1, 0), (), (0,), (0, 1, 2), (9, 9)):
            self.assertFails(NotARoom(room), another_full, book, labels, room, 9, order="none")
        for target in (-1, 4, 10 ** 30):
            self.assertFails(Mismatch("target"), another_full, book, labels, (0, 1), target, order="none")
        self.assertFails(BadRule("order", ()), another_full, book, labels, (0, 1), 3, order="none")


class RimMates(Case):
    def test_78_full_rooms_and_full_faces_in_pairs(self):
        kinds = set()
        for places, size in SHAPES:
            for seed in range(4):
                labels, book = some_labels(seed, places, size), some_book(seed, places, size)
                for missing in range(1, size + 1):
                    ends = full_rooms(book, labels) + full_faces(book, labels, missing)
                    for start in ends:
                        other = rim_mate(book, labels, start, missing=missing)
                        self.assertEqual(other, self.plain_mate(book, labels, start, missing))
                        self.assertIn(other, ends)
                        self.assertNotEqual(other, start)
                        self.assertEqual(rim_mate(book, tuple(labels), other, missing=missing), start)
                        kinds.add((len(start) - size, len(other) - size))
        self.assertEqual(kinds, {(0, 0), (0, -1), (-1, 0), (-1, -1)})

    def plain_mate(self, book, labels, start, missing):
        closed, new = closed_book(book), book.places
        room = start if len(start) == book.size else start + (new,)
        family = Family([closed, label_book(labels + [missing], book.size)])
        other = order_path(family, (room, rest_of(new + 1, room)), new)[-1][0]
        return tuple(place for place in other if place != new)

    def test_78_examples(self):
        book = Book(3, 2, [(0, 1), (1, 2)])
        self.assertEqual(rim_mate(book, [1, 2, 2], (0, 1), missing=2), (0,))
        self.assertEqual(rim_mate(book, [1, 2, 2], (0, 1), missing=1), (2,))
        self.assertEqual(rim_mate(book, [1, 2, 2], (2,), missing=1), (0, 1))
        self.assertEqual(rim_mate(Book(3, 1, [(1,)]), [1, 1, 1], (), missing=1), (1,))
        self.assertEqual(rim_mate(Book(3, 1, [(1,)]), [1, 1, 1], (1,), missing=1), ())
        with self.assertRaises(TypeError):
            rim_mate(book, [1, 2, 2], (0, 1), 2)

    def test_78_starts_that_are_neither(self):
        book, labels = Book(3, 2, [(0, 1), (1, 2)]), [1, 2, 2]
        for start in ((1, 2), (0, 2), (1, 0), (1,), (2,), (), (0, 1, 2), (9,)):
            self.assertFails(NotARoom(start), rim_mate, book, labels, start, missing=2)
        self.assertFails(NotARoom(()), rim_mate, Book(3, 1, [(1,), (0,)]), [1, 1, 1], (), missing=1)

    def test_78_11_and_12_places(self):
        labels = [1, 2] * 6
        self.assertEqual(rim_mate(Book(11, 2, [(0, 1)]), labels[:11], (0, 1), missing=1), (1,))
        twelve = Book(12, 2, [(0, 1)])
        self.assertFails(NotARoom((0,)), rim_mate, twelve, labels, (0,), missing=1)
        self.assertFails(BadBook("places", 0), rim_mate, twelve, labels, (1,), missing=1)
        self.assertFails(BadBook("places", 0), rim_mate, twelve, labels, (0, 1), missing=2)
        self.assertFails(BadBook("places", 0), rim_mate, ring_book(12, 2), labels, (0, 1), missing=2)
