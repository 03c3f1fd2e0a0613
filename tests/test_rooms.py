"""Points 2 to 4, and the faults of a room in point 5."""

import itertools
import unittest

from neveralone.rooms import (complement, exchanged, faces, merged, order_sign, room_fault,
                              shuffle_sign, subsets, without)
from tests.support import sign


class Rooms(unittest.TestCase):
    def test_2_faces_stand_in_the_order_of_the_missing_place(self):
        self.assertEqual(faces((0, 2, 5)), [(2, 5), (0, 5), (0, 2)])
        self.assertEqual(faces((1, 7)), [(7,), (1,)])
        self.assertEqual(faces(tuple(range(12)))[11], tuple(range(11)))

    def test_2_a_room_of_one_place_has_the_empty_face(self):
        self.assertEqual(faces((3,)), [()])

    def test_2_complement(self):
        self.assertEqual(complement(6, (1, 4)), (0, 2, 3, 5))
        self.assertEqual(complement(3, ()), (0, 1, 2))
        self.assertEqual(complement(3, (0, 1, 2)), ())
        self.assertEqual(complement(1, (0,)), ())

    def test_2_places_of_rooms(self):
        self.assertEqual(without((1, 4, 6), 4), (1, 6))
        self.assertEqual(without((1, 4, 6), 5), (1, 4, 6))
        self.assertEqual(without((1,), 1), ())
        self.assertEqual(without((), 1), ())
        self.assertEqual(exchanged((1, 4, 6), 4, 9), (1, 6, 9))
        self.assertEqual(exchanged((1, 4, 6), 6, 0), (0, 1, 4))
        self.assertEqual(exchanged((5,), 5, 2), (2,))
        self.assertEqual(merged((1, 6), (0, 3)), (0, 1, 3, 6))
        self.assertEqual(merged((), (2, 3)), (2, 3))
        self.assertEqual(merged((4,), ()), (4,))

    def test_3_subsets_are_ascending_and_complete(self):
        for many in range(8):
            items = tuple(range(3, 3 + 2 * many, 2))
            for size in range(many + 3):
                self.assertEqual(subsets(items, size), list(itertools.combinations(items, size)))

    def test_3_edges(self):
        self.assertEqual(subsets((), 0), [()])
        self.assertEqual(subsets((4, 7), 0), [()])
        self.assertEqual(subsets((4, 7), 2), [(4, 7)])
        self.assertEqual(subsets((4, 7), 3), [])
        self.assertEqual(subsets((), 1), [])
        self.assertEqual(subsets((4, 7), 10 ** 30), [])
        self.assertEqual(len(subsets(tuple(range(12)), 6)), 924)

    def test_1_lists_are_new(self):
        faces((0, 1)).append("more")
        subsets((0, 1), 1).append("more")
        self.assertEqual(faces((0, 1)), [(1,), (0,)])
        self.assertEqual(subsets((0, 1), 1), [(0,), (1,)])

    def test_4_order_sign(self):
        self.assertEqual(order_sign(()), 1)
        self.assertEqual(order_sign([]), 1)
        self.assertEqual(order_sign((7,)), 1)
        self.assertEqual(order_sign([10 ** 40, -10 ** 40]), -1)
        for row in itertools.permutations((-2, 0, 3, 8, 9)):
            self.assertEqual(order_sign(row), sign(row))
            self.assertEqual(order_sign(list(row)), sign(row))

    def test_4_shuffle_sign(self):
        self.assertEqual(shuffle_sign((0, 2), (1, 3)), -1)
        self.assertEqual(shuffle_sign((2, 3), (0, 1)), 1)
        self.assertEqual(shuffle_sign((2,), (0, 1)), 1)
        self.assertEqual(shuffle_sign((1,), (0,)), -1)
        self.assertEqual(shuffle_sign((), (0, 1)), 1)
        self.assertEqual(shuffle_sign((), ()), 1)
        for first in subsets(tuple(range(6)), 3):
            for second in subsets(tuple(range(6)), 2):
                right = 0 if set(first) & set(second) else sign(first + second)
                self.assertEqual(shuffle_sign(first, second), right)

    def test_4_rooms_that_share_a_place(self):
        self.assertEqual(shuffle_sign((0, 2), (2, 3)), 0)
        self.assertEqual(shuffle_sign((5,), (5,)), 0)

    def test_5_room_faults(self):
        self.assertEqual(room_fault(4, 2, (0, 3)), "")
        self.assertEqual(room_fault(4, 2, [3, 0]), "")
        self.assertEqual(room_fault(4, 0, ()), "")
        for room in ((), (0,), (0, 1, 2)):
            self.assertEqual(room_fault(4, 2, room), "count")
        for room in ((0, 4), (-1, 0), [4, 0], (0, 10 ** 30)):
            self.assertEqual(room_fault(4, 2, room), "place")
        self.assertEqual(room_fault(4, 2, (3, 3)), "twice")

    def test_5_order_of_room_faults(self):
        self.assertEqual(room_fault(4, 2, (9, 9, 9)), "count")
        self.assertEqual(room_fault(4, 3, (1, 1)), "count")
        self.assertEqual(room_fault(4, 2, (9, 9)), "place")
        self.assertEqual(room_fault(4, 3, (1, 1, -1)), "place")
