"""Points 32 to 34."""

import itertools

from neveralone.books import Book
from neveralone.errors import BadBook, Mismatch, NotEven, TooMany
from neveralone.filling import book_number, even_book_count, filled, filling, numbered_book, walk_even_books
from tests.support import Case, odd_faces_of, rooms_over, some_even_book, square_book

ODD = Book(4, 2, [(1, 2), (1, 3), (0, 3)])
HUGE = 10 ** 40


def beside(places, size, apex):
    return [room for room in rooms_over(places, size) if apex not in room]


class Fillings(Case):
    def test_32_each_apex(self):
        for places, size in ((1, 1), (3, 1), (5, 2), (5, 3), (6, 4), (4, 4)):
            for seed in range(4):
                book = some_even_book(seed, places, size)
                for apex in range(places):
                    rooms = filling(book, apex)
                    self.assertEqual(rooms, tuple(room for room in book.rooms if apex not in room))
                    self.assertEqual(filled(places, size, apex, rooms), book)

    def test_32_filled(self):
        for places, size, apex in ((5, 2, 0), (5, 2, 4), (5, 3, 2), (4, 1, 1), (4, 3, 3)):
            options = beside(places, size, apex)
            for rooms in (options[:1], options[1:3], options[::2], options, []):
                larger = [tuple(sorted(room + (apex,))) for room in rooms]
                book = filled(places, size, apex, rooms[::-1])
                self.assertEqual(book, Book(places, size, odd_faces_of(larger)))
                self.assertTrue(book.is_even)
                self.assertEqual(filling(book, apex), tuple(rooms))

    def test_32_books_without_rooms(self):
        for apex in range(4):
            self.assertEqual(filling(Book(4, 2, []), apex), ())
            self.assertEqual(filled(4, 2, apex, []), Book(4, 2, []))
            self.assertEqual(filled(4, 4, apex, ()), Book(4, 4, []))

    def test_32_errors_of_filling(self):
        for apex in (4, -1, HUGE):
            self.assertFails(Mismatch("apex"), filling, square_book(), apex)
            self.assertFails(Mismatch("apex"), filling, ODD, apex)
            self.assertFails(Mismatch("apex"), book_number, ODD, apex)
        self.assertFails(NotEven(0, (0,)), filling, ODD, 0)
        self.assertFails(NotEven(0, (0,)), book_number, ODD, 3)
        self.assertFails(NotEven(0, (0,)), book_number, ODD)

    def test_32_errors_of_filled(self):
        self.assertFails(BadBook("places", 0), filled, 13, 14, 99, [(0, 0)])
        self.assertFails(BadBook("size", 0), filled, 4, 5, 99, [(0, 0)])
        for room, fault in (((0,), "count"), ((0, 4), "place"), ((0, 0), "twice"), ((2, 1), "again")):
            self.assertFails(BadBook(fault, 1), filled, 4, 2, 99, [(1, 2), room])
            self.assertFails(BadBook(fault, 1), filled, 4, 2, 1, [(1, 2), room])
        for apex in (4, -1, HUGE):
            self.assertFails(Mismatch("apex"), filled, 4, 2, apex, [])
        self.assertFails(Mismatch("apex"), filled, 4, 2, 1, [(2, 3), (0, 1)])
        self.assertFails(Mismatch("apex"), filled, 4, 2, 3, [[3, 2]])
        self.assertFails(Mismatch("apex"), filled, 4, 4, 3, [(0, 1, 2, 3)])

    def test_1_arguments_stay_as_they_are(self):
        rooms = [[2, 1], [3, 1]]
        filled(4, 2, 0, rooms)
        self.assertEqual(rooms, [[2, 1], [3, 1]])


class Numbers(Case):
    def test_33_each_number_is_the_number_of_one_book(self):
        for places, size in ((1, 1), (3, 1), (4, 2), (4, 3), (5, 4), (3, 3), (5, 1)):
            for apex in range(places):
                options = beside(places, size, apex)
                self.assertEqual(even_book_count(places, size), 2 ** len(options))
                seen = set()
                for number in range(2 ** len(options)):
                    book = numbered_book(places, size, number, apex)
                    rooms = tuple(room for k, room in enumerate(options) if number & 2 ** k)
                    self.assertEqual(filling(book, apex), rooms)
                    self.assertEqual(book_number(book, apex), number)
                    seen.add(book.rooms)
                self.assertEqual(len(seen), 2 ** len(options))

    def test_33_there_are_no_other_even_books(self):
        for places, size in ((3, 2), (4, 2), (4, 3), (4, 1)):
            options = rooms_over(places, size)
            many = sum(1 for picks in itertools.product((0, 1), repeat=len(options))
                       if not odd_faces_of([room for room, pick in zip(options, picks) if pick]))
            self.assertEqual(even_book_count(places, size), many)

    def test_33_the_default_apex_is_0(self):
        book = some_even_book(5, 5, 2)
        self.assertEqual(book_number(book), book_number(book, apex=0))
        self.assertEqual(numbered_book(5, 2, 37), numbered_book(5, 2, 37, apex=0))
        self.assertEqual(numbered_book(4, 2, 1), Book(4, 2, [(0, 1), (0, 2), (1, 2)]))
        self.assertEqual(numbered_book(4, 2, 4), Book(4, 2, [(0, 2), (0, 3), (2, 3)]))

    def test_33_the_number_of_a_sum(self):
        for seed in range(5):
            a, b = some_even_book(seed, 6, 3), some_even_book(seed + 1, 6, 3)
            for apex in (0, 3, 5):
                self.assertEqual(book_number(a ^ b, apex), book_number(a, apex) ^ book_number(b, apex))

    def test_33_large_numbers(self):
        self.assertEqual(even_book_count(12, 5), 2 ** 462)
        self.assertEqual(even_book_count(12, 12), 1)
        book = numbered_book(12, 5, 2 ** 462 - 1, 7)
        self.assertEqual(len(filling(book, 7)), 462)
        self.assertEqual(book_number(book, 7), 2 ** 462 - 1)
        self.assertFails(Mismatch("number"), numbered_book, 12, 5, 2 ** 462, 7)

    def test_33_errors(self):
        self.assertEqual(numbered_book(4, 2, 7).size, 2)
        for number in (8, -1, HUGE):
            self.assertFails(Mismatch("number"), numbered_book, 4, 2, number)
            self.assertFails(Mismatch("number"), numbered_book, 4, 2, number, 3)
            for apex in (4, -1, HUGE):
                self.assertFails(Mismatch("apex"), numbered_book, 4, 2, number, apex)
            self.assertFails(BadBook("size", 0), numbered_book, 4, 5, number, 99)
            self.assertFails(BadBook("size", 0), numbered_book, 4, 0, number, 99)
            self.assertFails(BadBook("places", 0), numbered_book, 13, 0, number, 99)
        self.assertFails(Mismatch("number"), numbered_book, 3, 3, 1)
        self.assertEqual(numbered_book(3, 3, 0), Book(3, 3, []))
        for places, size, fault in ((0, 1, "places"), (13, 14, "places"), (4, 0, "size"), (4, 5, "size")):
            self.assertFails(BadBook(fault, 0), even_book_count, places, size)


class Walks(Case):
    def test_34_all_even_books_in_the_order_of_their_numbers(self):
        for places, size, apex in ((4, 2, 0), (4, 2, 3), (5, 1, 2), (3, 3, 1), (1, 1, 0)):
            walked = list(walk_even_books(places, size, apex=apex))
            self.assertEqual([book_number(book, apex) for book in walked], list(range(len(walked))))
            self.assertEqual(len(walked), even_book_count(places, size))
        self.assertEqual(list(walk_even_books(4, 2)), [numbered_book(4, 2, number) for number in range(8)])
        self.assertNotEqual(list(walk_even_books(4, 2)), list(walk_even_books(4, 2, apex=1)))

    def test_34_exactly_1024_books_and_more(self):
        self.assertEqual(len(list(walk_even_books(6, 2))), 1024)
        self.assertEqual(len(list(walk_even_books(11, 9, apex=10))), 1024)
        for places, size in ((12, 1), (7, 2), (12, 6), (12, 10)):
            self.assertFails(TooMany("books", 1024), list, walk_even_books(places, size))
        self.assertEqual(len(list(walk_even_books(11, 1, apex=4))), 1024)

    def test_34_errors_come_when_the_iteration_begins(self):
        for places, size, apex, error in ((13, 14, 99, BadBook("places", 0)), (0, 0, 0, BadBook("places", 0)),
                                          (4, 5, 99, BadBook("size", 0)), (4, 0, 0, BadBook("size", 0)),
                                          (4, 2, 4, Mismatch("apex")), (4, 2, -1, Mismatch("apex")),
                                          (12, 6, 12, Mismatch("apex")), (12, 6, 0, TooMany("books", 1024))):
            walk = walk_even_books(places, size, apex=apex)
            self.assertFails(error, next, walk)

    def test_34_the_apex_is_passed_by_keyword(self):
        with self.assertRaises(TypeError):
            walk_even_books(4, 2, 1)
