"""Points 5 to 7."""

from neveralone.books import Book, face_table
from neveralone.errors import BadBook, Mismatch
from tests.support import Case, odd_faces_of, odd_ones, rooms_over, some_book, some_even_book, square_book

HUGE = 10 ** 40


def faces_with_rooms(book):
    table = {}
    for room in book.rooms:
        for place in room:
            table.setdefault(tuple(p for p in room if p != place), []).append(room)
    return table


class MakingBooks(Case):
    def test_5_rooms_and_places_in_any_order(self):
        book = Book(5, 2, [[4, 1], (3, 0), (0, 1)])
        self.assertEqual((book.places, book.size), (5, 2))
        self.assertEqual(book.rooms, ((0, 1), (0, 3), (1, 4)))
        self.assertEqual(book, Book(5, 2, ((0, 1), (1, 4), (0, 3))))

    def test_5_equality(self):
        book = Book(4, 2, [(0, 1)])
        self.assertFalse(book == Book(5, 2, [(0, 1)]))
        self.assertFalse(book == Book(4, 2, [(0, 2)]))
        self.assertFalse(book == Book(4, 2, []))
        self.assertFalse(Book(4, 2, []) == Book(4, 3, []))
        self.assertFalse(book == book.rooms)
        self.assertFalse(book != Book(4, 2, [(1, 0)]))

    def test_5_bounds_of_places_and_size(self):
        for places in (1, 12):
            for size in (1, places):
                self.assertEqual(Book(places, size, []).rooms, ())
            self.assertFails(BadBook("size", 0), Book, places, 0, [])
            self.assertFails(BadBook("size", 0), Book, places, places + 1, [])
            self.assertFails(BadBook("size", 0), Book, places, -1, [])
        for places in (0, 13, -1, HUGE, -HUGE):
            self.assertFails(BadBook("places", 0), Book, places, 1, [])
            self.assertFails(BadBook("places", 0), Book, places, 0, [(5, 5)])
        self.assertFails(BadBook("size", 0), Book, 3, 4, [(0, 0), (9,)])
        self.assertEqual(Book(12, 12, [tuple(range(12))[::-1]]).rooms, (tuple(range(12)),))
        self.assertEqual(Book(1, 1, [(0,)]).rooms, ((0,),))
        self.assertEqual(Book.MOST_PLACES, 12)

    def test_5_each_fault_of_a_room_with_its_index(self):
        good = [(0, 1), (2, 3)]
        for room, fault in (((0,), "count"), ((0, 1, 2), "count"), ((), "count"), ((0, 4), "place"),
                            ((-1, 0), "place"), ((HUGE, 0), "place"), ((2, 2), "twice"),
                            ((1, 0), "again"), ([2, 3], "again")):
            self.assertFails(BadBook(fault, 2), Book, 4, 2, good + [room])
            self.assertFails(BadBook(fault, 2), Book, 4, 2, good + [room, (0, 9), (1,)])

    def test_5_order_of_the_faults_of_one_room(self):
        self.assertFails(BadBook("count", 0), Book, 4, 2, [(9, 9, 9)])
        self.assertFails(BadBook("count", 0), Book, 4, 3, [(1, 1)])
        self.assertFails(BadBook("place", 0), Book, 4, 2, [(9, 9)])

    def test_5_the_first_faulty_room_counts(self):
        self.assertFails(BadBook("again", 1), Book, 4, 2, [(0, 1), (1, 0), (0,)])
        self.assertFails(BadBook("twice", 0), Book, 4, 2, [(1, 1), (0,), (0, 9)])
        self.assertFails(BadBook("count", 1), Book, 4, 2, [(0, 1), (0,), (0, 1)])

    def test_5_a_book_copies_its_rooms(self):
        rooms = [[0, 1], [2, 3]]
        book = Book(4, 2, rooms)
        self.assertEqual(rooms, [[0, 1], [2, 3]])
        rooms[0][0] = 3
        rooms.append([0, 2])
        self.assertEqual(book.rooms, ((0, 1), (2, 3)))
        self.assertIn((0, 1), book)

    def test_5_empty(self):
        self.assertEqual(Book.empty(3, 2), Book(3, 2, []))
        self.assertFails(BadBook("places", 0), Book.empty, 13, 14)
        self.assertFails(BadBook("size", 0), Book.empty, 3, 4)

    def test_5_length_membership_iteration(self):
        book = square_book()
        self.assertEqual(len(book), 4)
        self.assertEqual(len(Book(4, 2, [])), 0)
        self.assertEqual(list(book), [(0, 1), (0, 3), (1, 2), (2, 3)])
        self.assertIs((1, 2) in book, True)
        self.assertIs((0, 2) in book, False)
        self.assertIs((2, 1) in book, False)
        self.assertIs((1,) in book, False)
        self.assertIs((1, 9) in book, False)


class FacesOfBooks(Case):
    def books(self):
        found = [some_book(seed, places, size) for seed in range(6)
                 for places in (1, 2, 4, 6) for size in range(1, places + 1)]
        return found + [some_even_book(seed, 6, size) for seed in range(6) for size in range(1, 7)]

    def test_6_odd_even_two_each(self):
        for book in self.books():
            table = faces_with_rooms(book)
            self.assertEqual(book.odd_faces(), odd_faces_of(list(book.rooms)))
            self.assertIs(book.is_even, all(len(rooms) % 2 == 0 for rooms in table.values()))
            self.assertIs(book.is_two_each, all(len(rooms) == 2 for rooms in table.values()))
            self.assertEqual(face_table(book), table)
            for face in rooms_over(book.places, book.size - 1):
                self.assertEqual(book.rooms_at(face), table.get(face, []))

    def test_6_books_without_rooms(self):
        for places, size in ((1, 1), (4, 2), (12, 12)):
            book = Book(places, size, [])
            self.assertIs(book.is_even, True)
            self.assertIs(book.is_two_each, True)
            self.assertEqual(book.odd_faces(), [])
            self.assertEqual(face_table(book), {})

    def test_6_books_of_size_1(self):
        for many, even, two_each in ((1, False, False), (2, True, True), (3, False, False), (4, True, False)):
            book = Book(5, 1, [(place,) for place in range(many)])
            self.assertEqual((book.is_even, book.is_two_each), (even, two_each))
            self.assertEqual(book.odd_faces(), [] if even else [()])
            self.assertEqual(book.rooms_at(()), list(book.rooms))
            self.assertFails(Mismatch("size"), book.boundary)
            self.assertFails(Mismatch("size"), book.link, 0)
            self.assertFails(Mismatch("size"), book.link, 99)

    def test_6_faces_that_no_room_has(self):
        self.assertEqual(square_book().rooms_at((9,)), [])
        self.assertEqual(square_book().rooms_at(()), [])
        self.assertEqual(square_book().rooms_at((0, 1)), [])

    def test_6_boundary(self):
        for book in self.books():
            if book.size > 1:
                self.assertEqual(book.boundary(), Book(book.places, book.size - 1, book.odd_faces()))
            if book.size > 2:
                self.assertEqual(book.boundary().boundary(), Book(book.places, book.size - 2, []))

    def test_6_link(self):
        for book in self.books():
            for place in range(book.places if book.size > 1 else 0):
                rooms = [tuple(p for p in room if p != place) for room in book.rooms if place in room]
                self.assertEqual(book.link(place), Book(book.places, book.size - 1, rooms))
                self.assertTrue(book.link(place).is_even or not book.is_even)

    def test_1_lists_and_dicts_are_new(self):
        book = Book(4, 2, [(0, 1), (1, 2)])
        book.odd_faces().clear()
        book.rooms_at((1,)).clear()
        face_table(book)[(1,)].clear()
        face_table(book).clear()
        self.assertEqual(book.odd_faces(), [(0,), (2,)])
        self.assertEqual(book.rooms_at((1,)), [(0, 1), (1, 2)])
        self.assertEqual(face_table(book)[(1,)], [(0, 1), (1, 2)])


class SumsAndJoins(Case):
    def test_7_sum(self):
        for seed in range(6):
            first, second = some_book(seed, 5, 2), some_book(-seed - 1, 5, 2)
            rooms = sorted(set(first.rooms) ^ set(second.rooms))
            self.assertEqual(first ^ second, Book(5, 2, rooms))
            self.assertEqual(first ^ first, Book(5, 2, []))

    def test_7_join_keeps_unions_that_come_an_odd_number_of_times(self):
        for sizes in ((1, 1), (1, 2), (2, 2), (2, 3), (3, 3), (1, 5)):
            for seed in range(4):
                first, second = [some_book(f"{seed} {at}", 6, size) for at, size in enumerate(sizes)]
                unions = [tuple(sorted(r + s)) for r in first for s in second if not set(r) & set(s)]
                self.assertEqual(first * second, Book(6, sum(sizes), odd_ones(unions)))
                self.assertEqual(first * second, second * first)

    def test_7_a_union_that_comes_twice_is_not_in_the_join(self):
        pair = Book(3, 1, [(0,), (1,)])
        self.assertEqual(pair * pair, Book(3, 2, []))
        three = Book(3, 1, [(0,), (1,), (2,)])
        self.assertEqual(pair * three, Book(3, 2, [(0, 2), (1, 2)]))

    def test_7_sums_and_joins_of_even_books_are_even(self):
        for seed in range(6):
            first, second = some_even_book(seed, 6, 3), some_even_book(-seed - 1, 6, 3)
            self.assertTrue((first ^ second).is_even)
            self.assertTrue((first * second).is_even)
            self.assertTrue((first * some_even_book(seed, 6, 2)).is_even)

    def test_7_mismatches(self):
        book = Book(4, 2, [(0, 1)])
        self.assertFails(Mismatch("places"), lambda: book ^ Book(5, 2, []))
        self.assertFails(Mismatch("places"), lambda: book ^ Book(5, 3, []))
        self.assertFails(Mismatch("size"), lambda: book ^ Book(4, 3, []))
        self.assertFails(Mismatch("places"), lambda: book * Book(5, 2, []))
        self.assertFails(Mismatch("places"), lambda: book * Book(3, 3, []))
        self.assertFails(Mismatch("places"), lambda: book * Book(5, 5, []))
        self.assertFails(Mismatch("size"), lambda: book * Book(4, 3, []))
        self.assertEqual((book * Book(4, 2, [(3, 2)])).rooms, ((0, 1, 2, 3),))
        self.assertEqual((Book(1, 1, []) ^ Book(1, 1, [(0,)])).rooms, ((0,),))
        self.assertFails(Mismatch("size"), lambda: Book(1, 1, []) * Book(1, 1, []))

    def test_1_operators_leave_their_books_alone(self):
        first, second = square_book(), Book(4, 2, [(0, 1), (0, 2)])
        first ^ second, first * second, first.boundary(), first.link(0)
        self.assertEqual(first, square_book())
        self.assertEqual(second, Book(4, 2, [(0, 1), (0, 2)]))
