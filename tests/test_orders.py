"""Points 103 to 107."""

import itertools
import random

from neveralone.books import Book
from neveralone.errors import BadOrders, Mismatch, NotARoom
from neveralone.orders import (beaters, check_orders, full_orders, least_place, other_unbeaten, unbeaten_book, unbeaten_chain,
                               unbeaten_rooms)
from neveralone.signs import is_signed
from tests.support import Case, rooms_over, sign

CALLS = (check_orders, full_orders, unbeaten_rooms, unbeaten_book, unbeaten_chain, lambda orders: least_place(orders, 0, (0,)),
         lambda orders: beaters(orders, (0,)), lambda orders: other_unbeaten(orders, (), 0))
PAIR = [[0, 1, 2], [2, 1, 0]]


def some_orders(seed, many, things):
    chance = random.Random(f"orders {seed} {many} {things}")
    return [chance.sample(range(things), things) for _ in range(many)]


def all_sizes(most_things=8):
    return [(many, things) for many in range(1, 5) for things in range(1, most_things + 1)]


def some_sets(seeds=range(2)):
    """Orders of all sizes."""
    return [some_orders(seed, many, things) for many, things in all_sizes() for seed in seeds]


def plain_full(orders):
    """The full orders, built place by place."""
    many, things = len(orders), len(orders[0])
    return [tuple([things + at, *orders[at], *[things + other for other in range(many) if other != at]]) for at in range(many)]


def plain_beats(orders, room):
    """The places that beat a room, by their positions in the full orders."""
    fulls = plain_full(orders)
    return [place for place in range(len(fulls[0]))
            if all(full.index(place) > min(map(full.index, room)) for full in fulls)]


def plain_unbeaten(orders):
    return [room for room in rooms_over(len(orders) + len(orders[0]), len(orders)) if not plain_beats(orders, room)]


class Faults(Case):
    def assertBad(self, fault, at, orders):
        for call in CALLS:
            self.assertFails(BadOrders(fault, at), call, orders)
            self.assertFails(BadOrders(fault, at), call, tuple(map(tuple, orders)))

    def test_103_right_orders(self):
        for many, things in all_sizes():
            orders = some_orders(0, many, things)
            self.assertEqual(check_orders(orders), (many, things))
            self.assertEqual(check_orders(tuple(map(tuple, orders))), (many, things))
        self.assertIs(type(check_orders(PAIR)), tuple)

    def test_103_no_order_and_five(self):
        self.assertBad("count", 0, [])
        self.assertBad("count", 5, [[0]] * 5)
        self.assertBad("count", 5, [[]] + [[7]] * 4)
        self.assertBad("count", 6, [list(range(9))] * 6)

    def test_103_no_thing_and_nine(self):
        self.assertBad("things", 0, [[]])
        self.assertBad("things", 0, [[], [0, 0]])
        self.assertBad("things", 9, [list(range(9))])
        self.assertBad("things", 9, [[0] * 9, [5], []])
        self.assertBad("things", 12, [list(range(12))] * 4)

    def test_103_faulty_orders(self):
        for orders, at in (([[0, 0]], 0), ([[1]], 0), ([[-1]], 0), ([[0, 1], [0]], 1), ([[0, 1], [0, 1, 2]], 1), ([[0, 1], []], 1),
                           ([[0, 1], [1, 1]], 1), ([[0, 1], [1, 2]], 1), ([[0, 1], [-1, 0]], 1), ([[0, 2, 1], [1, 0, 2], [3, 0, 1]], 2),
                           ([[0], [0], [0], [10 ** 40]], 3), ([[0, 1], [0, 0], [2, 2]], 1), ([[0, 1, 3], [0, 1, 2]], 0),
                           ([[0, 1], [1, 2], [0, 1]], 1)):
            self.assertBad("order", at, orders)

    def test_103_an_own_place_within_an_order(self):
        self.assertBad("order", 0, [[0, 2]])
        self.assertBad("order", 1, [[0, 1], [3, 1]])
        self.assertBad("order", 1, [[0, 1], [0, 1, 2, 3]])


class FullOrders(Case):
    def test_104_full_orders(self):
        for orders in some_sets():
            self.assertEqual(full_orders(orders), plain_full(orders))
            self.assertEqual(full_orders(tuple(map(tuple, orders))), plain_full(orders))
        self.assertEqual(full_orders(PAIR), [(3, 0, 1, 2, 4), (4, 2, 1, 0, 3)])
        self.assertEqual(full_orders([[0]]), [(1, 0)])
        self.assertEqual(full_orders([[1, 0], (0, 1), [1, 0]]), [(2, 1, 0, 3, 4), (3, 0, 1, 2, 4), (4, 1, 0, 2, 3)])
        self.assertEqual([type(full) for full in full_orders(PAIR)], [tuple, tuple])

    def test_105_least_places(self):
        for orders in some_sets(range(1)):
            for size in range(1, 4):
                for room in rooms_over(len(orders) + len(orders[0]), size)[::5]:
                    for at, full in enumerate(plain_full(orders)):
                        self.assertEqual(least_place(orders, at, room), min(room, key=full.index))
        self.assertEqual([least_place(PAIR, 0, room) for room in ((0, 2), (0, 2, 3), (2, 4), (4,))], [0, 3, 2, 4])
        self.assertEqual([least_place(PAIR, 1, room) for room in ((0, 2), (0, 2, 3), (2, 4), (0, 3))], [2, 2, 4, 0])

    def test_105_beaters(self):
        seen = set()
        for orders in some_sets(range(1)):
            for size in range(1, 5):
                for room in rooms_over(len(orders) + len(orders[0]), size)[::7]:
                    told = beaters(orders, room)
                    self.assertEqual(told, plain_beats(orders, room))
                    seen.add((told != [], bool(set(told) & set(room))))
        self.assertEqual(seen, {(False, False), (True, False), (True, True)})

    def test_105_places_of_the_room_that_beat_it(self):
        self.assertEqual(beaters([[0, 1, 2], [0, 1, 2]], (0, 1)), [1, 2])
        self.assertEqual(beaters([[0, 1, 2], [0, 1, 2]], (0, 1, 2, 3, 4)), [0, 1, 2])
        self.assertEqual(beaters(PAIR, (0, 1, 2)), [1])
        self.assertEqual(beaters(PAIR, (3, 4)), [0, 1, 2])
        self.assertEqual(beaters(PAIR, (0, 2)), [1])
        self.assertEqual(beaters(PAIR, (0, 1)), [])


class Unbeaten(Case):
    def test_105_unbeaten_rooms(self):
        for orders in some_sets():
            self.assertEqual(unbeaten_rooms(orders), plain_unbeaten(orders))
            self.assertEqual(unbeaten_rooms(tuple(map(tuple, orders))), plain_unbeaten(orders))
        self.assertEqual(unbeaten_rooms([[2, 0, 1]]), [(1,)])
        self.assertEqual(unbeaten_rooms(PAIR), [(0, 1), (0, 3), (1, 2), (2, 4)])

    def test_106_the_unbeaten_book(self):
        for orders in some_sets():
            many, things = len(orders), len(orders[0])
            own = tuple(range(things, things + many))
            self.assertNotEqual(plain_beats(orders, own), [])
            book = unbeaten_book(orders)
            self.assertEqual(book, Book(many + things, many, plain_unbeaten(orders) + [own]))
            self.assertTrue(book.is_two_each)
        self.assertEqual(unbeaten_book([[0]]), Book(2, 1, [(0,), (1,)]))

    def test_106_equal_orders_and_all_small_ones(self):
        for things in (1, 2, 3):
            for orders in itertools.product(itertools.permutations(range(things)), repeat=2):
                self.assertEqual(unbeaten_rooms(orders), plain_unbeaten(orders))
                self.assertTrue(unbeaten_book(orders).is_two_each)
        self.assertEqual(unbeaten_rooms([[0, 1, 2]] * 3), [(2, 3, 4), (2, 3, 5), (2, 4, 5)])

    def test_107_the_unbeaten_chain(self):
        for orders in some_sets():
            many, things = len(orders), len(orders[0])
            fulls = plain_full(orders)
            terms = {tuple(range(things, things + many)): -1}
            for room in plain_unbeaten(orders):
                row = [min(room, key=full.index) for full in fulls]
                self.assertEqual(tuple(sorted(row)), room)
                terms[room] = sign(row)
            chain = unbeaten_chain(orders)
            self.assertEqual((chain.places, chain.degree, chain.terms), (many + things, many, tuple(sorted(terms.items()))))
            self.assertTrue(is_signed(chain))
            self.assertEqual(chain.odd_book(), unbeaten_book(orders))

    def test_106_the_other_unbeaten_room(self):
        for orders in some_sets(range(1)):
            rooms = unbeaten_book(orders).rooms
            for room in rooms:
                for leaving in room:
                    face = set(room) - {leaving}
                    other, = [other for other in rooms if other != room and face < set(other)]
                    self.assertEqual(other_unbeaten(orders, room, leaving), other)

    def test_106_own_places_only(self):
        self.assertEqual(other_unbeaten(PAIR, (3, 4), 3), (2, 4))
        self.assertEqual(other_unbeaten(PAIR, (3, 4), 4), (0, 3))
        self.assertEqual(other_unbeaten(PAIR, (0, 3), 0), (3, 4))
        self.assertEqual(other_unbeaten([[1, 0]], (2,), 2), (0,))

    def test_106_rooms_that_are_not_in_the_book_and_places_not_in_the_room(self):
        for room in ((0, 2), (1, 0), (3, 0), (0,), (), (0, 1, 3), (0, 5), (-1, 4), (0, 0), (10 ** 40, 0)):
            for leaving in (0, 4, 99):
                self.assertFails(NotARoom(room), other_unbeaten, PAIR, room, leaving)
        for room, leaving in (((0, 1), 2), ((0, 1), 3), ((3, 4), 0), ((3, 4), -1), ((0, 3), 5)):
            self.assertFails(Mismatch("leaving"), other_unbeaten, PAIR, room, leaving)

    def test_1_nothing_is_changed_and_lists_are_new(self):
        orders = [list(order) for order in PAIR]
        full_orders(orders).clear()
        unbeaten_rooms(orders).clear()
        beaters(orders, (3, 4)).clear()
        self.assertEqual(orders, PAIR)
        self.assertEqual(len(unbeaten_rooms(orders)), 4)
