"""Points 13, 48 (for these functions) and 49 to 51."""

import itertools

from neveralone.books import Book
from neveralone.errors import Mismatch, NotAPartition, TooMany
from neveralone.families import Family
from neveralone.makers import all_rooms
from neveralone.points import MOST_NEAR, double_place, list_near, near_fault, tied_points
from tests.support import Case, all_families, near_of, ones, partitions_of, square_book, squares

SHAPES = ((2, 2), (1, 1, 1), (1, 2, 3), (3, 3), (2, 2, 2), (1, 1, 2, 2), (4,))
OUTSIDE = (-1, 4, 10 ** 30)


def neighbours(book, room):
    """The other rooms of a book that have all places of the room but one."""
    return [other for other in book.rooms if len(set(other) & set(room)) == len(room) - 1 and other != room]


class DoublePlaces(Case):
    def test_49_the_least_place_in_two_rooms(self):
        for row, place in ((((0, 1), (1, 2)), 1), (((0, 1), (2, 3)), None), (((3, 5), (2, 5), (2, 3)), 2),
                           (((7, 9), (8, 9), (7, 8)), 7), (((4,), (4,), (4,)), 4), ((), None), (((),), None),
                           (((1, 2, 3),), None), (((0, 1), (2, 3), (2, 3)), 2), (((-1, 3), (-1, 3)), -1)):
            self.assertEqual(double_place(row), place, row)
            self.assertEqual(double_place(list(row)), place, row)
        self.assertEqual(double_place(((1, 1), (2,))), None)

    def test_13_49_near_partitions_have_one(self):
        for family in all_families((2, 2, 2), range(3)):
            for target in range(6):
                for row in near_of(family, target):
                    places = list(itertools.chain(*row))
                    self.assertEqual([p for p in range(6) if places.count(p) == 2], [double_place(row)])


class NearFaults(Case):
    def test_49_each_fault_ahead_of_the_next_one(self):
        family = Family([square_book(), all_rooms(4, 1), all_rooms(4, 1)])
        rows = {"count": ((), ((0, 2),), ((0, 1), (9,)), ((0, 1), (2,), (3,), (3,))),
                "room": (((0, 2), (0,), (0,)), ((1, 0), (2,), (3,)), ((0, 1), (4,), (2,)), ((0, 1), (2,), (0, 1))),
                "target": (((0, 1), (1,), (1,)), ((1, 2), (3,), (0,)), ((0, 1), (2,), (3,)), ((2, 3), (0,), (0,))),
                "place": (((1, 2), (1,), (2,)), ((2, 3), (2,), (3,)))}
        for fault, faulty in rows.items():
            for row in faulty:
                self.assertEqual(near_fault(family, row, 0), fault, row)
                self.assertEqual(near_fault(family, list(row), 0), fault, row)
                for target in OUTSIDE:
                    self.assertFails(Mismatch("target"), near_fault, family, row, target)
        self.assertEqual(near_fault(family, ((1, 2), (3,), (1,)), 0), "")
        self.assertEqual(near_fault(family, [(2, 3), (3,), (1,)], 0), "")
        self.assertEqual(near_fault(family, ((2, 3), (1,), (1,)), 0), "")

    def test_49_every_row_of_rooms(self):
        for sizes in SHAPES[:4]:
            for family in all_families(sizes, range(2)):
                for target in range(family.places):
                    right = near_of(family, target)
                    for row in itertools.product(*[book.rooms for book in family]):
                        fault = "" if row in right else "target" if target in itertools.chain(*row) else "place"
                        self.assertEqual(near_fault(family, row, target), fault)


class TiedPoints(Case):
    def test_50_all_points_one_exchange_away(self):
        seen = 0
        for sizes in SHAPES:
            for family in all_families(sizes, range(3)):
                for target in range(family.places):
                    partitions, near = partitions_of(family), near_of(family, target)
                    for row in partitions + near:
                        tied = [row[:at] + (room,) + row[at + 1:] for at, book in enumerate(family)
                                for room in neighbours(book, row[at])]
                        tied = sorted(other for other in tied if other in partitions or other in near)
                        self.assertEqual(tied_points(family, row, target), tied)
                        self.assertEqual(tied_points(family, list(row), target), tied)
                        self.assertEqual(len(tied) % 2, 1 if row in partitions else 0)
                        seen += len(tied)
        self.assertGreater(seen, 500)

    def test_50_the_example(self):
        self.assertEqual(tied_points(squares(), ((0, 1), (2, 3)), 0), [((1, 2), (2, 3))])
        self.assertEqual(tied_points(squares(), ((1, 2), (2, 3)), 0), [((0, 1), (2, 3)), ((1, 2), (0, 3))])
        self.assertEqual(tied_points(ones(4), ((0,), (1,), (2,), (3,)), 3),
                         [((0,), (1,), (2,), (place,)) for place in (0, 1, 2)])

    def test_50_rows_that_are_no_points(self):
        for row in ((), ((0, 1),), ((0, 2), (1, 3)), ((1, 0), (2, 3)), ((0, 1), (0, 3)), ((1, 2), (1, 2)),
                    ((0, 1), (1, 2))):
            self.assertFails(NotAPartition("row"), tied_points, squares(), row, 0)
            self.assertFails(NotAPartition("row"), tied_points, squares(), list(row), 0)
        self.assertEqual(len(tied_points(squares(), ((0, 1), (1, 2)), 3)), 2)
        self.assertFails(NotAPartition("row"), tied_points, Family([Book(3, 3, [])]), ((0, 1, 2),), 0)

    def test_48_a_target_outside_comes_first(self):
        for target in OUTSIDE:
            self.assertFails(Mismatch("target"), tied_points, squares(), ((0, 1), (2, 3)), target)
            self.assertFails(Mismatch("target"), tied_points, squares(), ((0, 2), (1, 3)), target)

    def test_1_lists_are_new(self):
        row = [(0, 1), (2, 3)]
        tied_points(squares(), row, 0).clear()
        self.assertEqual(row, [(0, 1), (2, 3)])
        self.assertEqual(len(tied_points(squares(), row, 0)), 1)


class NearLists(Case):
    def test_51_all_near_partitions_in_ascending_order(self):
        seen = 0
        for sizes in SHAPES:
            for family in all_families(sizes, range(3)):
                for target in range(family.places):
                    rows = near_of(family, target)
                    self.assertEqual(rows, sorted(rows))
                    self.assertEqual(list_near(family, target), rows)
                    seen += len(rows)
        self.assertGreater(seen, 500)

    def test_51_the_example(self):
        self.assertEqual(list_near(squares(), 0), [((1, 2), (2, 3)), ((2, 3), (1, 2))])

    def test_51_families_without_near_partitions(self):
        for family in (Family([Book(1, 1, [])]), Family([square_book(), Book(4, 2, [])]), Family([Book(4, 4, [])])):
            for target in range(family.places):
                self.assertEqual(list_near(family, target), [])
                self.assertEqual(list_near(family, target, most=0), [])

    def test_51_exactly_most_and_one_more(self):
        self.assertEqual(len(list_near(ones(4), 0, most=36)), 36)
        self.assertEqual(list_near(ones(4), 0), near_of(ones(4), 0))
        for most in (35, 1, 0):
            self.assertFails(TooMany("near partitions", most), list_near, ones(4), 0, most=most)
        self.assertEqual(MOST_NEAR, 20000)
        # Over 6 places there are 1800 near partitions for each target, over 8 places 141120 of them.
        self.assertEqual(len(list_near(ones(6), 5)), 1800)
        self.assertFails(TooMany("near partitions", 20000), list_near, ones(8), 5)
        self.assertEqual(len(list_near(ones(8), 5, most=141120)), 141120)
        self.assertFails(TooMany("near partitions", 141119), list_near, ones(8), 5, most=141119)
        self.assertFails(TooMany("near partitions", 20000), list_near, ones(12), 0)

    def test_51_most_for_any_number_of_books(self):
        for sizes in SHAPES:
            for family in all_families(sizes, range(3)):
                many = len(near_of(family, 0))
                if many > 0:
                    self.assertEqual(len(list_near(family, 0, most=many)), many)
                    self.assertFails(TooMany("near partitions", many - 1), list_near, family, 0, most=many - 1)

    def test_48_a_target_outside_comes_first(self):
        for target in OUTSIDE:
            self.assertFails(Mismatch("target"), list_near, squares(), target)
            self.assertFails(Mismatch("target"), list_near, squares(), target, most=0)
        self.assertFails(Mismatch("target"), list_near, ones(8), 8)

    def test_51_the_bound_is_passed_by_keyword_and_the_others_by_position(self):
        with self.assertRaises(TypeError):
            list_near(squares(), 0, 4)
        with self.assertRaises(TypeError):
            list_near(squares(), target=0)
