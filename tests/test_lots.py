"""Points 45 to 47."""

import itertools
import math

from neveralone.books import Book
from neveralone.errors import BadFamily, NotAPartition, NotEven, TooMany
from neveralone.families import Family
from neveralone.lots import check_lot, count_lots, list_lots, lot_family, lot_fault
from neveralone.makers import all_rooms, ring_book
from neveralone.partitions import count_partitions, list_partitions
from tests.support import Case, lots_of, some_even_book, square_book

ODD = Book(4, 2, [(1, 2), (1, 3), (0, 3)])
SHAPES = ((4, 2), (6, 2), (6, 3), (8, 2), (8, 4), (9, 3), (5, 5), (3, 3))
CALLS = (lot_family, list_lots, count_lots, lambda book: list_lots(book, most=0), lambda book: lot_fault(book, ()),
         lambda book: check_lot(book, [(9, 9)]))


def some_books():
    return [some_even_book(seed, places, size) for places, size in SHAPES for seed in range(4)]


class Families(Case):
    def test_45_copies(self):
        self.assertEqual(lot_family(square_book()), Family([square_book()] * 2))
        self.assertEqual(lot_family(all_rooms(12, 3)), Family([all_rooms(12, 3)] * 4))
        self.assertEqual(lot_family(Book(5, 5, [])), Family([Book(5, 5, [])]))

    def test_45_sizes_that_do_not_fit(self):
        for places, size in ((4, 1), (1, 1), (5, 2), (7, 3), (12, 5), (5, 4), (12, 8)):
            odd = Book(places, size, [tuple(range(size))])
            self.assertFalse(odd.is_even)
            for call in CALLS:
                self.assertFails(BadFamily("lots", size), call, Book(places, size, []))
                self.assertFails(BadFamily("lots", size), call, odd)

    def test_45_books_that_are_not_even(self):
        for book, face in ((ODD, (0,)), (Book(6, 3, [(1, 2, 4), (1, 2, 5)]), (1, 4)), (Book(3, 3, [(0, 1, 2)]), (0, 1))):
            for call in CALLS:
                self.assertFails(NotEven(0, face), call, book)


class Lists(Case):
    def test_46_all_lots_in_ascending_order(self):
        seen = 0
        for book in some_books():
            lots = lots_of(book)
            seen += len(lots)
            self.assertEqual(lots, sorted(lots))
            self.assertEqual(list_lots(book), lots)
            self.assertEqual(count_lots(book), len(lots))
            self.assertEqual(len(lots) % 2, 0)
        self.assertGreater(seen, 100)

    def test_46_each_lot_gives_the_partitions_with_its_rooms_in_any_order(self):
        for book in (square_book(), some_even_book(1, 6, 2), some_even_book(2, 9, 3)):
            rows = [row for lot in lots_of(book) for row in itertools.permutations(lot)]
            self.assertEqual(list_partitions(lot_family(book)), sorted(rows))

    def test_46_large_numbers(self):
        self.assertEqual(count_lots(all_rooms(12, 3)), 15400)
        web = some_even_book(1, 12, 2)
        self.assertEqual(count_lots(web) * math.factorial(6), count_partitions(lot_family(web)))
        self.assertEqual(len(list_lots(web)), count_lots(web))
        self.assertEqual(len(list_lots(ring_book(12, 6))), count_partitions(lot_family(ring_book(12, 6))) // 2)

    def test_46_books_without_lots(self):
        for book in (Book(4, 2, []), Book(3, 3, []), Book(4, 2, [(0, 1), (0, 2), (1, 2)])):
            self.assertEqual(list_lots(book), [])
            self.assertEqual(list_lots(book, most=0), [])
            self.assertEqual(count_lots(book), 0)

    def test_46_exactly_most_and_one_more(self):
        self.assertEqual(list_lots(square_book(), most=2), [((0, 1), (2, 3)), ((0, 3), (1, 2))])
        for most in (1, 0):
            self.assertFails(TooMany("lots", most), list_lots, square_book(), most=most)
        self.assertFails(TooMany("lots", 5000), list_lots, all_rooms(12, 3))
        self.assertEqual(len(list_lots(all_rooms(12, 3), most=15400)), 15400)
        self.assertFails(TooMany("lots", 15399), list_lots, all_rooms(12, 3), most=15399)

    def test_46_the_bound_is_passed_by_keyword_and_the_book_by_position(self):
        with self.assertRaises(TypeError):
            list_lots(square_book(), 4)
        with self.assertRaises(TypeError):
            list_lots(book=square_book())

    def test_1_lists_are_new(self):
        list_lots(square_book()).clear()
        self.assertEqual(len(list_lots(square_book())), 2)


class Faults(Case):
    def test_47_lots(self):
        for book in some_books():
            for lot in lots_of(book)[:20]:
                for make in (tuple, list):
                    self.assertEqual(lot_fault(book, make(lot)), "")
                    self.assertEqual(check_lot(book, make(lot)), lot)
                    self.assertIs(type(check_lot(book, make(lot))), tuple)

    def test_47_each_fault_ahead_of_the_next_one(self):
        book = all_rooms(6, 3)
        web = Book(6, 2, [(0, 1), (0, 2), (1, 2), (3, 4), (3, 5), (4, 5)])
        rows = {"count": ((), ((0, 1),), ((2, 3), (1, 0)), ((3, 5), (3, 4), (9, 9), (0, 1))),
                "room": (((0, 1), (3, 4), (2, 5)), ((4, 5), (0, 1), (3, 2)), ((1, 0), (3, 4), (4, 5)),
                         ((0, 1), (0, 1), (0, 9)), ((0, 1), (), (3, 4)), ((4, 5), (0, 1), (0, 1, 2))),
                "order": (((3, 4), (0, 1), (0, 2)), ((0, 1), (0, 1), (3, 4)), ((0, 1), (4, 5), (3, 5))),
                "place": (((0, 1), (0, 2), (3, 4)), ((0, 1), (3, 4), (3, 5)), ((3, 4), (3, 5), (4, 5)))}
        for fault, faulty in rows.items():
            for lot in faulty:
                self.assertEqual(lot_fault(web, lot), fault, lot)
                self.assertFails(NotAPartition(fault), check_lot, web, lot)
                self.assertFails(NotAPartition(fault), check_lot, web, list(lot))
        self.assertEqual(book.is_even, True)

    def test_47_lots_with_their_rooms_in_another_order(self):
        for book in (square_book(), some_even_book(1, 6, 2), some_even_book(2, 9, 3)):
            for lot in lots_of(book):
                for row in itertools.permutations(lot):
                    self.assertEqual(lot_fault(book, row), "" if row == lot else "order")

    def test_47_every_row_of_rooms(self):
        book = some_even_book(1, 6, 2)
        right = lots_of(book)
        for row in itertools.product(book.rooms, repeat=3):
            fault = "" if row in right else "place" if row[0] < row[1] < row[2] else "order"
            self.assertEqual(lot_fault(book, row), fault)
