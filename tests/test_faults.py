"""Point 23."""

import itertools

from neveralone.books import Book
from neveralone.errors import BadBook, BadFamily, NotEven
from neveralone.families import Family
from neveralone.faults import book_faults, family_faults, odd_paper
from tests.support import Case, odd_faces_of, some_book, some_even_book, square_book

ODD = Book(4, 2, [(1, 2), (1, 3), (0, 3)])


class BookFaults(Case):
    def test_23_a_book_without_a_fault(self):
        self.assertEqual(book_faults(4, 2, [(1, 0), [2, 3]]), [])
        self.assertEqual(book_faults(1, 1, []), [])
        self.assertEqual(book_faults(12, 12, (tuple(range(12)),)), [])

    def test_23_a_broken_bound_stands_alone(self):
        rooms = [(9, 9), (0,), (0,)]
        for places in (0, 13, -1, 10 ** 30):
            self.assertEqual(book_faults(places, 0, rooms), [("places", 0)])
            self.assertEqual(book_faults(places, 1, []), [("places", 0)])
        for size in (0, 5, -1, 10 ** 30):
            self.assertEqual(book_faults(4, size, rooms), [("size", 0)])
            self.assertEqual(book_faults(4, size, []), [("size", 0)])

    def test_23_one_pair_for_each_faulty_room(self):
        rooms = [(0, 1), (0,), (1, 0), (2, 2), (0, 4), (2, 3), (5, 5, 5), [0, 1], (-1, -1)]
        self.assertEqual(book_faults(4, 2, rooms), [("count", 1), ("again", 2), ("twice", 3), ("place", 4),
                                                    ("count", 6), ("again", 7), ("place", 8)])

    def test_23_again_compares_with_earlier_rooms_without_a_fault(self):
        self.assertEqual(book_faults(4, 2, [(0, 9), (0, 9)]), [("place", 0), ("place", 1)])
        self.assertEqual(book_faults(4, 2, [(2, 2), (2, 2)]), [("twice", 0), ("twice", 1)])
        self.assertEqual(book_faults(4, 2, [(0, 1, 2), (0, 1, 2)]), [("count", 0), ("count", 1)])
        self.assertEqual(book_faults(4, 2, [(0, 1), (1, 0), (0, 1)]), [("again", 1), ("again", 2)])

    def test_23_book_raises_the_first_pair(self):
        options = [(0, 1), (1, 0), (0,), (0, 4), (3, 3), (2, 3)]
        for rooms in itertools.product(options, repeat=3):
            found = book_faults(4, 2, rooms)
            if found:
                self.assertFails(BadBook(*found[0]), Book, 4, 2, rooms)
            else:
                self.assertEqual(len(Book(4, 2, rooms)), 3)
        for places, size in itertools.product(range(-1, 14), repeat=2):
            if book_faults(places, size, []):
                self.assertFails(BadBook(*book_faults(places, size, [])[0]), Book, places, size, [])
            else:
                self.assertEqual(len(Book(places, size, [])), 0)

    def test_23_odd_paper(self):
        self.assertIsNone(odd_paper(square_book()))
        self.assertIsNone(odd_paper(Book(4, 2, [])))
        self.assertEqual(odd_paper(ODD), ((0,), ((0, 3),)))
        self.assertEqual(odd_paper(Book(5, 1, [(1,), (2,), (4,)])), ((), ((1,), (2,), (4,))))
        for seed in range(10):
            book = some_book(seed, 5, 3)
            face = odd_faces_of(list(book.rooms))[0]
            rooms = tuple(room for room in book.rooms if set(face) < set(room))
            self.assertEqual(odd_paper(book), (face, rooms))

    def test_1_lists_are_new_and_arguments_stay(self):
        rooms = [[1, 0], [0, 1]]
        book_faults(4, 2, rooms).clear()
        self.assertEqual(book_faults(4, 2, rooms), [("again", 1)])
        self.assertEqual(rooms, [[1, 0], [0, 1]])


class FamilyFaults(Case):
    def test_23_no_book(self):
        self.assertEqual(family_faults([]), [("none", 0)])
        self.assertEqual(family_faults(()), [("none", 0)])

    def test_23_a_family_without_a_fault(self):
        self.assertEqual(family_faults((square_book(), square_book())), [])

    def test_23_all_faults_in_order(self):
        other = Book(5, 2, [(0, 1)])
        self.assertEqual(family_faults([ODD, other, square_book(), other]),
                         [("places", 1), ("places", 3), ("sizes", 4), ("odd", 0), ("odd", 1), ("odd", 3)])
        self.assertEqual(family_faults([ODD, square_book(), ODD]), [("sizes", 3), ("odd", 0), ("odd", 2)])
        self.assertEqual(family_faults([square_book(), ODD]), [("odd", 1)])
        self.assertEqual(family_faults([square_book(), other]), [("places", 1), ("odd", 1)])
        self.assertEqual(family_faults([other, square_book(), Book(4, 1, [])]),
                         [("places", 1), ("places", 2), ("odd", 0)])
        self.assertEqual(family_faults([square_book()]), [("sizes", 1)])

    def test_23_family_raises_the_first_pair(self):
        options = [square_book(), ODD, Book(5, 2, []), Book(4, 3, []), some_even_book(1, 4, 1), Book(4, 4, [(0, 1, 2, 3)])]
        for many in range(4):
            for books in itertools.product(options, repeat=many):
                found = family_faults(books)
                if not found:
                    self.assertEqual(len(Family(books)), many)
                elif found[0][0] == "odd":
                    at = found[0][1]
                    self.assertFails(NotEven(at, odd_paper(books[at])[0]), Family, books)
                else:
                    self.assertFails(BadFamily(*found[0]), Family, books)
