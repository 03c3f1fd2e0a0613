"""Points 45, 48 (for these functions) and 56."""

import itertools
from unittest import mock

from neveralone import lotpaths
from neveralone.books import Book
from neveralone.errors import BadFamily, BadRule, Mismatch, NotAPartition, NotEven, TooMany
from neveralone.lotpaths import lot_mate, lot_pairs
from neveralone.lots import lot_family
from neveralone.makers import all_rooms, ring_book
from neveralone.rules import Rule
from tests.support import Case, lots_of, order_path, some_even_book, square_book

ODD = Book(4, 2, [(1, 2), (1, 3), (0, 3)])
LOT = ((0, 1), (2, 3))
SHAPES = ((4, 2), (6, 2), (6, 3), (8, 4), (9, 3), (8, 2))


def some_books():
    return [some_even_book(seed, places, size) for places, size in SHAPES for seed in range(2)]


class Mates(Case):
    def test_56_the_rooms_of_the_mate_in_ascending_order(self):
        seen = 0
        for book in some_books():
            for lot in lots_of(book)[:12]:
                for target in range(book.places):
                    for order in Rule.ORDERS:
                        other = tuple(sorted(order_path(lot_family(book), lot, target, order)[-1]))
                        self.assertEqual(lot_mate(book, lot, target, order), other)
                        self.assertEqual(lot_mate(book, list(other), target, order), lot)
                        self.assertNotEqual(lot, other)
                        seen += 1
                    self.assertEqual(lot_mate(book, lot, target), lot_mate(book, lot, target, "next"))
        self.assertGreater(seen, 300)

    def test_56_the_rooms_of_a_lot_may_stand_in_any_order_on_its_path(self):
        book = some_even_book(1, 6, 2)
        for lot in lots_of(book):
            for row in itertools.permutations(lot):
                ends = order_path(lot_family(book), row, 2, "far")[-1]
                self.assertEqual(tuple(sorted(ends)), lot_mate(book, lot, 2, "far"))

    def test_56_the_example(self):
        self.assertEqual(lot_mate(square_book(), LOT, 0), ((0, 3), (1, 2)))
        self.assertEqual(lot_mate(square_book(), [(0, 3), (1, 2)], 3, order="ends"), LOT)


class Pairs(Case):
    def test_56_each_lot_in_exactly_one_pair(self):
        for book in some_books():
            for target in range(book.places):
                for order in Rule.ORDERS:
                    mates = {lot: lot_mate(book, lot, target, order) for lot in lots_of(book)}
                    pairs = sorted((lot, other) for lot, other in mates.items() if lot < other)
                    self.assertEqual(lot_pairs(book, target, order), pairs)
                    self.assertEqual(sorted(itertools.chain(*pairs)), lots_of(book))
                self.assertEqual(lot_pairs(book, target), lot_pairs(book, target, order="next"))

    def test_56_books_without_lots(self):
        for book in (Book(4, 2, []), Book(3, 3, []), Book(4, 2, [(0, 1), (0, 2), (1, 2)])):
            self.assertEqual(lot_pairs(book, 2), [])

    def test_56_many_lots(self):
        pairs = lot_pairs(ring_book(12, 4), 7, "ends")
        self.assertEqual(len(pairs), 15)
        self.assertEqual(pairs, sorted(pairs))


class Order(Case):
    def test_48_the_first_of_two_errors(self):
        for call in (lambda *given: lot_mate(*given[:1], (), *given[1:]), lot_pairs):
            self.assertFails(BadFamily("lots", 1), call, Book(4, 1, [(0,)]), 4)
            self.assertFails(BadFamily("lots", 3), call, Book(4, 3, [(0, 1, 2)]), -1)
            self.assertFails(NotEven(0, (0,)), call, ODD, 4)
            for target in (-1, 4, 10 ** 30):
                self.assertFails(Mismatch("target"), call, square_book(), target, "none")
                self.assertFails(Mismatch("target"), call, square_book(), target)
            for order in ("", "Next", "nearest"):
                self.assertFails(BadRule("order", ()), call, square_book(), 3, order)
        self.assertFails(Mismatch("target"), lot_pairs, all_rooms(12, 3), 12)
        self.assertFails(BadRule("order", ()), lot_pairs, all_rooms(12, 3), 0, "none")
        self.assertFails(TooMany("lots", 5000), lot_pairs, all_rooms(12, 3), 0, "far")

    def test_48_an_order_that_is_no_word_comes_ahead_of_a_row_that_is_no_lot(self):
        self.assertFails(BadRule("order", ()), lot_mate, square_book(), LOT[::-1], 0, "none")
        self.assertFails(NotAPartition("order"), lot_mate, square_book(), LOT[::-1], 0, "far")

    def test_56_the_fault_is_that_of_check_lot(self):
        for lot, fault in (((), "count"), (((0, 2), (1, 3)), "room"), (((2, 3), (0, 1)), "order"),
                           (((0, 1), (0, 1)), "order"), (((0, 1), (0, 3)), "place")):
            self.assertFails(NotAPartition(fault), lot_mate, square_book(), lot, 0)
            self.assertFails(NotAPartition(fault), lot_mate, square_book(), list(lot), 0)

    def test_48_the_bound_for_exchanges(self):
        # No path of lots that is known is as long as the bound, so the bound is made small here.
        self.assertEqual(lotpaths.MOST_EXCHANGES, 20000)
        with mock.patch.object(lotpaths, "MOST_EXCHANGES", 1):
            self.assertFails(TooMany("exchanges", 1), lot_mate, square_book(), LOT, 0)
            self.assertFails(TooMany("exchanges", 1), lot_pairs, square_book(), 0)
            self.assertFails(NotAPartition("count"), lot_mate, square_book(), (), 0)
            self.assertFails(TooMany("lots", 5000), lot_pairs, all_rooms(12, 3), 0)
        with mock.patch.object(lotpaths, "MOST_EXCHANGES", 2):
            self.assertEqual(lot_mate(square_book(), LOT, 0), ((0, 3), (1, 2)))
