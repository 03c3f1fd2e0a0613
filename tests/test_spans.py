"""Points 35 to 37."""

import functools
import itertools
import operator

from neveralone.books import Book
from neveralone.errors import Mismatch
from neveralone.makers import all_rooms, boundary_book
from neveralone.spans import combination, rank_of
from tests.support import Case, rooms_over, some_book, some_even_book


def sum_of(books, places, size):
    return functools.reduce(operator.xor, books, Book(places, size, []))


def all_sums(books, places, size):
    return {sum_of(some, places, size).rooms for many in range(len(books) + 1)
            for some in itertools.combinations(books, many)}


class Combinations(Case):
    def check(self, target, books):
        """The answer is a right sum or a right test; returns its word."""
        word, told = combination(target, books)
        self.assertIs(type(told), tuple)
        self.assertEqual(list(told), sorted(set(told)))
        if word == "sum":
            self.assertEqual(sum_of([books[at] for at in told], target.places, target.size), target)
        else:
            self.assertEqual(word, "test")
            self.assertLessEqual(len(told), len(books) + 1)
            self.assertTrue(set(told) <= set(rooms_over(target.places, target.size)))
            self.assertEqual(len(set(told) & set(target.rooms)) % 2, 1)
            for book in books:
                self.assertEqual(len(set(told) & set(book.rooms)) % 2, 0)
        return word

    def test_35_36_a_sum_exactly_if_one_exists(self):
        words = set()
        for seed in range(12):
            books = [some_even_book(f"{seed} {at}", 5, 2) for at in range(seed % 5)]
            sums = all_sums(books, 5, 2)
            targets = [some_book(seed, 5, 2), some_even_book(seed, 5, 2), sum_of(books[1:], 5, 2)]
            for target in targets + books:
                word = self.check(target, books)
                self.assertEqual(word == "sum", target.rooms in sums)
                words.add(word)
        self.assertEqual(words, {"sum", "test"})

    def test_36_no_books(self):
        self.assertEqual(combination(Book(4, 2, []), []), ("sum", ()))
        word, rooms = combination(Book(4, 2, [(0, 1), (2, 3)]), ())
        self.assertEqual((word, len(rooms)), ("test", 1))
        self.check(Book(4, 2, [(0, 1), (2, 3)]), [])

    def test_36_equal_books_twice(self):
        book, other = some_even_book(1, 5, 2), some_even_book(2, 5, 2)
        self.assertEqual(self.check(book, [book, book]), "sum")
        self.assertEqual(self.check(book ^ other, [book, book, other]), "sum")
        self.assertEqual(self.check(other, [book, book]), "test")

    def test_36_the_book_without_rooms_as_a_target(self):
        nothing = Book(5, 2, [])
        for books in ([], [nothing], [some_book(1, 5, 2)], [some_book(1, 5, 2)] * 2):
            self.assertEqual(self.check(nothing, books), "sum")
        self.assertEqual(self.check(some_book(1, 5, 2), [nothing, nothing]), "test")

    def test_36_many_books(self):
        books = [boundary_book(8, corners) for corners in rooms_over(8, 4)]
        self.assertEqual(self.check(some_even_book(3, 8, 3), books), "sum")
        self.assertEqual(self.check(Book(8, 3, [(0, 1, 2)]), books), "test")
        self.assertEqual(self.check(all_rooms(8, 3), tuple(books)), "sum")

    def test_36_mismatches(self):
        target, size, places, both = Book(4, 2, []), Book(4, 3, []), Book(5, 2, []), Book(5, 3, [])
        for books, fault in (([size], "size"), ([places], "places"), ([both], "places"),
                             ([target, size, places], "size"), ([target, places, size], "places"),
                             ([target, both, size], "places"), ([size, both], "size")):
            self.assertFails(Mismatch(fault), combination, target, books)
            self.assertFails(Mismatch(fault), rank_of, [target] + books)
            self.assertFails(Mismatch(fault), rank_of, tuple([target] + books))


class Ranks(Case):
    def test_37_ranks(self):
        for seed in range(10):
            books = [some_even_book(f"{seed} {at}", 5, 2) for at in range(seed % 6)]
            rank = rank_of(books)
            self.assertEqual(2 ** rank, len(all_sums(books, 5, 2)))
            for target in (some_book(seed, 5, 2), sum_of(books, 5, 2), some_even_book(seed, 5, 2)):
                same = rank_of(books + [target]) == rank
                self.assertEqual(same, combination(target, books)[0] == "sum")

    def test_37_edges(self):
        book = some_book(1, 4, 2)
        self.assertEqual(rank_of([]), 0)
        self.assertEqual(rank_of(()), 0)
        self.assertEqual(rank_of([Book(4, 2, [])]), 0)
        self.assertEqual(rank_of([book]), 1)
        self.assertEqual(rank_of([book, book]), 1)
        self.assertEqual(rank_of([Book(4, 2, []), book, Book(4, 2, [])]), 1)
        self.assertEqual(rank_of([boundary_book(8, corners) for corners in rooms_over(8, 4)]), 35)

    def test_1_arguments_stay_as_they_are(self):
        books = [some_book(1, 4, 2), some_book(2, 4, 2)]
        kept = list(books)
        rank_of(books), combination(books[0], books)
        self.assertEqual(books, kept)
