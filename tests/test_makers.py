"""Points 27 to 31."""

import itertools

from neveralone.books import Book
from neveralone.errors import BadBook, BadLabels, Mismatch
from neveralone.makers import all_rooms, boundary_book, cross_book, join, label_book, ring_book, total
from tests.support import Case, rooms_over, some_book

HUGE = 10 ** 40


def run_lengths(places, room):
    """The lengths of the runs of a room on the ring, found by walking around it."""
    start = min(set(range(places)) - set(room))
    around = [(start + step) % places in room for step in range(places)]
    return [len(list(group)) for inside, group in itertools.groupby(around) if inside]


class AllRooms(Case):
    def test_27_all_rooms(self):
        for places in range(1, 8):
            for size in range(1, places + 1):
                book = all_rooms(places, size)
                self.assertEqual(book, Book(places, size, rooms_over(places, size)))
                self.assertEqual(book.is_even, (places - size) % 2 == 1)
        self.assertEqual(len(all_rooms(12, 6)), 924)

    def test_27_faults(self):
        for places in (0, 13, HUGE, -1):
            self.assertFails(BadBook("places", 0), all_rooms, places, 0)
        for size in (0, 13, HUGE, -1):
            self.assertFails(BadBook("size", 0), all_rooms, 12, size)


class Boundaries(Case):
    def test_27_boundary_book(self):
        for corners in ((0, 2), (1, 3, 4), (0, 1, 2, 3, 4)):
            rooms = [tuple(p for p in corners if p != place) for place in corners]
            self.assertEqual(boundary_book(5, corners), Book(5, len(corners) - 1, rooms))
            self.assertEqual(boundary_book(5, corners), Book(5, len(corners), [corners]).boundary())
            self.assertTrue(boundary_book(5, corners).is_two_each)

    def test_27_faults(self):
        for places in (4, 0, 13):
            self.assertFails(Mismatch("size"), boundary_book, places, ())
            self.assertFails(Mismatch("size"), boundary_book, places, (9,))
        self.assertFails(BadBook("places", 0), boundary_book, 0, (0, 1))
        self.assertFails(BadBook("places", 0), boundary_book, 13, tuple(range(14)))
        self.assertFails(BadBook("size", 0), boundary_book, 2, (0, 1, 2))
        self.assertFails(BadBook("size", 0), boundary_book, 1, (0, 0))
        self.assertFails(BadBook("place", 0), boundary_book, 4, (0, 4))
        self.assertFails(BadBook("place", 0), boundary_book, 4, (4, 4))
        self.assertFails(BadBook("twice", 0), boundary_book, 4, (1, 1))


class Rings(Case):
    def test_28_ring_books(self):
        for places in range(3, 13):
            for size in range(2, places, 2):
                book = ring_book(places, size)
                rooms = [room for room in rooms_over(places, size)
                         if all(length % 2 == 0 for length in run_lengths(places, room))]
                self.assertEqual(book, Book(places, size, rooms))
                self.assertTrue(book.is_two_each)

    def test_28_examples(self):
        self.assertEqual(ring_book(3, 2).rooms, ((0, 1), (0, 2), (1, 2)))
        self.assertEqual(ring_book(5, 2).rooms, ((0, 1), (0, 4), (1, 2), (2, 3), (3, 4)))
        self.assertEqual(len(ring_book(5, 4)), 5)
        self.assertEqual(len(ring_book(12, 10)), 36)

    def test_28_faults(self):
        for places, size in ((5, 3), (5, 0), (5, 1), (5, -2), (4, 4), (4, 6), (2, 2), (0, 2), (13, 3), (14, 14),
                             (HUGE, 7), (5, HUGE), (-4, -6)):
            self.assertFails(Mismatch("size"), ring_book, places, size)
        for places, size in ((13, 2), (13, 12), (HUGE, 2), (HUGE, 10 ** 20)):
            self.assertFails(BadBook("places", 0), ring_book, places, size)


class Labels(Case):
    def test_29_label_books(self):
        for labels, kinds in (((1, 1), 1), ((1, 2, 1), 2), ([2, 1, 1, 2, 2], 2), ((3, 1, 2, 3, 1, 2), 3),
                              ([1] * 12, 1), ((1, 2, 3, 4, 5, 1), 5)):
            places = len(labels)
            rooms = [room for room in rooms_over(places, places - kinds)
                     if all(sum(1 for p in range(places) if labels[p] == label and p not in room) == 1
                            for label in range(1, kinds + 1))]
            book = label_book(labels, kinds)
            self.assertEqual(book, Book(places, places - kinds, rooms))
            self.assertTrue(book.is_two_each)
            groups = [[p for p in range(places) if labels[p] == label] for label in range(1, kinds + 1)]
            self.assertEqual(book, join(*[boundary_book(places, tuple(g)) for g in groups if len(g) > 1]))

    def test_29_labels_that_only_one_place_has(self):
        self.assertEqual(label_book((1, 2, 2), 2), Book(3, 1, [(1,), (2,)]))
        self.assertEqual(label_book([3, 1, 1, 2], 3), Book(4, 1, [(1,), (2,)]))

    def test_29_kinds(self):
        for kinds in (0, -1, 3, 4, HUGE):
            self.assertFails(BadLabels("kinds", kinds), label_book, [9, 9, 9], kinds)
        for kinds in (0, 1, 2):
            self.assertFails(BadLabels("kinds", kinds), label_book, [], kinds)
        self.assertFails(BadLabels("kinds", 1), label_book, [1], 1)
        self.assertFails(BadLabels("kinds", 13), label_book, [1] * 13, 13)

    def test_29_labels(self):
        for wrong in (0, -1, 3, HUGE):
            self.assertFails(BadLabels("label", 0), label_book, [wrong, 1, 1, wrong], 2)
            self.assertFails(BadLabels("label", 3), label_book, [1, 1, 1, wrong], 2)
        self.assertFails(BadLabels("label", 12), label_book, [1] * 12 + [3], 2)

    def test_29_unused(self):
        self.assertFails(BadLabels("unused", 1), label_book, [2, 2, 2], 2)
        self.assertFails(BadLabels("unused", 2), label_book, [1, 1, 1, 1], 3)
        self.assertFails(BadLabels("unused", 3), label_book, [1, 2, 1, 2], 3)
        self.assertFails(BadLabels("unused", 2), label_book, [1] * 13, 2)

    def test_29_places(self):
        self.assertFails(BadBook("places", 0), label_book, [1] * 13, 1)
        self.assertFails(BadBook("places", 0), label_book, [1, 2] * 7, 2)
        self.assertEqual(label_book([1] * 11 + [2], 2).size, 10)


class Crosses(Case):
    def test_30_cross_books(self):
        for places, pairs in ((2, [(0, 1)]), (5, ((1, 3), (0, 4))), (6, [(4, 5), (0, 1), (2, 3)]),
                              (12, [(k, k + 6) for k in range(6)])):
            rooms = [tuple(sorted(row)) for row in itertools.product(*pairs)]
            book = cross_book(places, pairs)
            self.assertEqual(book, Book(places, len(pairs), rooms))
            self.assertTrue(book.is_two_each)
            self.assertEqual(book, join(*[boundary_book(places, pair) for pair in pairs]))

    def test_30_pairs(self):
        for pairs in ([], (), [(0,)], [(0, 1, 2)], [(0, 1), ()], [(0, 0)], [(0, 1), (1, 2)], [(0, 1), (0, 1)],
                      [(0, 9), (9, 1)]):
            for places in (4, 0, 13):
                self.assertFails(Mismatch("pairs"), cross_book, places, pairs)

    def test_30_books(self):
        self.assertFails(BadBook("places", 0), cross_book, 13, [(0, 1)])
        self.assertFails(BadBook("places", 0), cross_book, 0, [(0, 1)])
        self.assertFails(BadBook("size", 0), cross_book, 1, [(0, 1)])
        self.assertFails(BadBook("place", 0), cross_book, 4, [(0, 4)])
        self.assertFails(BadBook("place", 1), cross_book, 4, [(0, 1), (2, 4), (9, 10)])
        self.assertFails(BadBook("place", 1), cross_book, 4, [(0, 1), (-1, 2)])
        self.assertFails(BadBook("place", 1), cross_book, 2, [(0, 1), (2, 3), (4, 5)])


class JoinAndTotal(Case):
    def test_31_one_or_more_books(self):
        books = [some_book(at, 6, 2) for at in range(3)]
        self.assertEqual(join(books[0]), books[0])
        self.assertEqual(total(books[0]), books[0])
        for many in (2, 3):
            for order in itertools.permutations(books, many):
                joined, summed = order[0], order[0]
                for book in order[1:]:
                    joined, summed = joined * book, summed ^ book
                self.assertEqual((join(*order), total(*order)), (joined, summed))
        self.assertEqual(len({join(*order).rooms for order in itertools.permutations(books)}), 1)
        self.assertEqual(len({total(*order).rooms for order in itertools.permutations(books)}), 1)

    def test_31_no_book(self):
        self.assertFails(Mismatch("none"), join)
        self.assertFails(Mismatch("none"), total)

    def test_31_errors_of_the_operators(self):
        two, three, other = Book(4, 2, []), Book(4, 3, []), Book(5, 2, [])
        self.assertFails(Mismatch("size"), join, two, two, three, other)
        self.assertFails(Mismatch("places"), join, two, two, other, three)
        self.assertFails(Mismatch("size"), total, two, two, three, other)
        self.assertFails(Mismatch("places"), total, two, two, other, three)
