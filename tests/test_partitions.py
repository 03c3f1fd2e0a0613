"""Points 13 and 38 to 40."""

import math

from neveralone.books import Book
from neveralone.errors import NotAPartition, NotARoom, TooMany
from neveralone.families import Family
from neveralone.ledgers import join_families
from neveralone.makers import all_rooms, ring_book
from neveralone.partitions import (MOST_LISTED, check_partition, count_partitions, list_partitions, partition_fault,
                                   partitions_with, walk_partitions)
from tests.support import Case, all_families, partitions_of, square_book

SHAPES = ((2, 2), (1, 1, 1), (1, 2, 3), (3, 3), (2, 2, 2), (1, 1, 2, 2), (2, 1, 1), (4,))

# The places of ten books of rooms of size 1, with 5000 partitions in all, and with 5002.
ROWS_5000 = ((1, 4), (0, 2, 3, 4, 5, 7), (2, 4, 5, 6, 8, 9), (2, 6, 7, 8), (0, 1, 2, 3, 6, 9), (0, 1, 3, 4, 5, 9),
             (0, 1, 2, 6, 7, 9), (0, 3, 4, 5, 6, 9), (0, 1, 2, 3, 4, 7), (0, 1, 2, 3, 5, 6))
ROWS_5002 = ((0, 1, 2, 3, 5, 6), (0, 1, 4, 6), (2, 4, 5, 9), (0, 2, 3, 7, 8, 9), (2, 3, 5, 6, 7, 8),
             (0, 2, 4, 5, 7, 8), (1, 3, 6, 7, 8, 9), (1, 8), (1, 2, 4, 6, 7, 9), (0, 2, 5, 6, 7, 9))


def ones_of(rows):
    """The family of books of size 1 with these places."""
    return Family([Book(len(rows), 1, [(place,) for place in row]) for row in rows])


def squares():
    return Family([square_book(), square_book()])


def ones(many):
    """The family of so many books of all rooms of size 1; its partitions are all orders of the places."""
    return Family([all_rooms(many, 1)] * many)


class Partitions(Case):
    def test_13_38_all_partitions_in_ascending_order(self):
        seen = 0
        for sizes in SHAPES:
            for family in all_families(sizes, range(4)):
                rows = partitions_of(family)
                seen += len(rows)
                self.assertEqual(rows, sorted(rows))
                self.assertEqual(list_partitions(family), rows)
                self.assertEqual(list(walk_partitions(family)), rows)
                self.assertEqual(count_partitions(family), len(rows))
                self.assertEqual(len(rows) % 2, 0)
        self.assertGreater(seen, 100)

    def test_38_examples(self):
        self.assertEqual(list_partitions(squares()), [((0, 1), (2, 3)), ((0, 3), (1, 2)), ((1, 2), (0, 3)),
                                                      ((2, 3), (0, 1))])
        self.assertEqual(list_partitions(ones(2)), [((0,), (1,)), ((1,), (0,))])
        self.assertEqual(count_partitions(Family([ring_book(12, 4)] * 3)), 180)

    def test_38_families_without_partitions(self):
        for family in (Family([Book(1, 1, [])]), Family([square_book(), Book(4, 2, [])]),
                       Family([Book(4, 2, [(0, 1), (0, 2), (1, 2)])] * 2)):
            self.assertEqual(list_partitions(family), [])
            self.assertEqual(list_partitions(family, most=0), [])
            self.assertEqual(list(walk_partitions(family)), [])
            self.assertEqual(count_partitions(family), 0)

    def test_38_exactly_most_and_one_more(self):
        self.assertEqual(len(list_partitions(squares(), most=4)), 4)
        for most in (3, 2, 0):
            self.assertFails(TooMany("partitions", most), list_partitions, squares(), most=most)
        self.assertEqual(MOST_LISTED, 5000)
        self.assertEqual(len(list_partitions(ones(6))), 720)
        self.assertFails(TooMany("partitions", 5000), list_partitions, ones(8))
        self.assertEqual(len(list_partitions(ones(8), most=40320)), 40320)
        self.assertFails(TooMany("partitions", 40319), list_partitions, ones(8), most=40319)

    def test_38_exactly_5000_partitions_are_listed(self):
        family = ones_of(ROWS_5000)
        self.assertEqual(count_partitions(family), 5000)
        self.assertEqual(list_partitions(family), list(walk_partitions(family)))
        self.assertEqual(count_partitions(ones_of(ROWS_5002)), 5002)
        self.assertFails(TooMany("partitions", 5000), list_partitions, ones_of(ROWS_5002))
        self.assertEqual(len(list(walk_partitions(ones_of(ROWS_5002)))), 5002)

    def test_38_the_bound_is_passed_by_keyword_and_the_family_by_position(self):
        with self.assertRaises(TypeError):
            list_partitions(squares(), 4)
        with self.assertRaises(TypeError):
            list_partitions(family=squares())

    def test_38_large_numbers(self):
        family = ones(12)
        self.assertEqual(count_partitions(family), math.factorial(12))
        self.assertFails(TooMany("partitions", 5000), list_partitions, family)
        walk = walk_partitions(family)
        self.assertEqual(next(walk), tuple((place,) for place in range(12)))
        self.assertEqual(next(walk), tuple((place,) for place in list(range(10)) + [11, 10]))

    def test_1_lists_are_new(self):
        list_partitions(squares()).clear()
        self.assertEqual(len(list_partitions(squares())), 4)

    def test_1_a_walk_reads_its_family_when_it_begins(self):
        family = squares()
        walk = walk_partitions(family)
        next(walk)
        family.books, family.places = (), 0
        self.assertEqual(len(list(walk)), 3)


class Faults(Case):
    def test_39_partitions(self):
        for row in partitions_of(squares()):
            for make in (tuple, list):
                self.assertEqual(partition_fault(squares(), make(row)), "")
                self.assertEqual(check_partition(squares(), make(row)), row)
                self.assertIs(type(check_partition(squares(), make(row))), tuple)

    def test_39_each_fault_ahead_of_the_next_one(self):
        family = Family([square_book(), all_rooms(4, 1), all_rooms(4, 1)])
        rows = {"count": ((), ((0, 1),), ((0, 1), (2,)), ((0, 1), (2,), (3,), ()), ((9,), (9,)), ((1, 0), (2,))),
                "room": (((1, 0), (2,), (3,)), ((0, 2), (1,), (3,)), ((0, 1), (4,), (2,)), ((0, 1), (2,), ()),
                         ((0, 1), (2,), (2, 3)), ((0, 0), (2,), (3,)), ((0, 1), (0, 1), (0, 1)), ((0, 1), (0,), (9,)),
                         ((2,), (3,), (0, 1)), ((0, 1), (-1,), (3,))),
                "place": (((0, 1), (2,), (2,)), ((0, 1), (1,), (2,)), ((0, 3), (3,), (0,)))}
        for fault, faulty in rows.items():
            for row in faulty:
                self.assertEqual(partition_fault(family, row), fault, row)
                self.assertFails(NotAPartition(fault), check_partition, family, row)
                self.assertFails(NotAPartition(fault), check_partition, family, list(row))
        self.assertEqual(partition_fault(family, ((0, 1), (3,), (2,))), "")

    def test_39_every_row_of_rooms(self):
        family = all_families((2, 1, 1), [3])[0]
        right = partitions_of(family)
        for first in family[0]:
            for second in family[1]:
                for third in family[2]:
                    row = (first, second, third)
                    self.assertEqual(partition_fault(family, row), "" if row in right else "place")


class PartitionsWith(Case):
    def test_40_rows_with_a_room(self):
        for sizes in ((2, 2), (1, 2, 3), (2, 2, 2)):
            for family in all_families(sizes, range(3)):
                for at, book in enumerate(family):
                    for room in book:
                        rows = [row for row in partitions_of(family) if row[at] == room]
                        self.assertEqual(partitions_with(family, at, room), rows)

    def test_40_rooms_that_the_book_does_not_contain(self):
        for room in ((0, 2), (1, 0), (0,), (), (0, 9), (0, 1, 2)):
            for at in (0, 1):
                self.assertFails(NotARoom(room), partitions_with, squares(), at, room)
        self.assertFails(NotARoom((0, 2)), partitions_with, Family([square_book(), all_rooms(4, 1), all_rooms(4, 1)]), 0,
                         (0, 2))
        self.assertFails(NotARoom((12,)), partitions_with, ones(10), 0, (12,))

    def test_40_exactly_5000_rows_and_more(self):
        # Each of the two partitions of the first family has one of the two rooms.
        pair = Family([all_rooms(2, 1)] * 2)
        family = join_families(pair, ones_of(ROWS_5000))
        self.assertEqual(len(partitions_with(family, 0, (1,))), 5000)
        family = join_families(pair, ones_of(ROWS_5002))
        self.assertFails(TooMany("partitions", 5000), partitions_with, family, 0, (1,))
        self.assertFails(NotARoom((2,)), partitions_with, family, 0, (2,))
        self.assertEqual(len(partitions_with(ones(6), 3, (2,))), 120)
        self.assertFails(TooMany("partitions", 5000), partitions_with, ones(8), 7, (5,))

    def test_1_lists_are_new(self):
        partitions_with(squares(), 0, (0, 1)).clear()
        self.assertEqual(partitions_with(squares(), 0, (0, 1)), [((0, 1), (2, 3))])
