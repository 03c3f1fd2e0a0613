"""Points 11 (signed books) and 60 to 63."""

import itertools

from neveralone.books import Book
from neveralone.chains import Chain
from neveralone.errors import BadPaper, NoSigns, NotTwoEach
from neveralone.makers import all_rooms, boundary_book, cross_book, label_book, ring_book
from neveralone.naming import renamed
from neveralone.signs import bond, find_signs, is_signed, pieces, ring_turn, signed_book
from tests.support import Case, crossed_plane, some_book, some_even_book, square_book

ODD = Book(4, 2, [(1, 2), (1, 3), (0, 3)])


def moved(book, places, by):
    return Book(places, book.size, [tuple(place + by for place in room) for room in book.rooms])


def side_by_side(first, second):
    places = first.places + second.places
    return moved(first, places, 0) ^ moved(second, places, first.places)


def two_each_books():
    """Two-each books with signs: made ones, of one piece or of several."""
    return [square_book(), ring_book(7, 4), ring_book(8, 2), label_book([1, 1, 1, 2, 2], 2), boundary_book(6, (1, 3, 4, 5)),
            cross_book(8, [(0, 5), (3, 2), (6, 7)]), side_by_side(boundary_book(3, (0, 1, 2)), square_book()),
            renamed(ring_book(6, 4), [3, 1, 5, 0, 2, 4]), Book(3, 1, [(0,), (2,)]), Book(5, 3, [])]


def unsigned_books():
    """Two-each books without signs, also with a piece that has some."""
    plane = crossed_plane()
    return [plane, renamed(plane, [4, 2, 0, 5, 1, 3]), side_by_side(plane, boundary_book(4, (0, 1, 2, 3))),
            side_by_side(boundary_book(4, (0, 1, 2, 3)), plane)]


def plain_pieces(book):
    """The pieces of a book, grown from each room until nothing changes."""
    found = []
    for start in book.rooms:
        if not any(start in piece for piece in found):
            piece = [start]
            for room in piece:
                piece.extend(other for other in book.rooms
                             if len(set(room) & set(other)) == book.size - 1 and other not in piece)
            found.append(sorted(piece))
    return found


def plain_bond(first, second):
    left, came = set(first) - set(second), set(second) - set(first)
    if len(left) != 1:
        return 0
    return -(-1) ** (first.index(*left) + second.index(*came))


class Pieces(Case):
    def test_60_pieces_of_many_books(self):
        books = [some_book(seed, places, size) for seed in range(4) for places, size in ((5, 2), (6, 3), (5, 1), (7, 5))]
        for book in books + two_each_books() + unsigned_books():
            sparse = Book(book.places, book.size, book.rooms[::3])
            self.assertEqual(pieces(book), plain_pieces(book))
            self.assertEqual(pieces(sparse), plain_pieces(sparse))

    def test_60_examples(self):
        self.assertEqual(pieces(Book(4, 2, [])), [])
        self.assertEqual(pieces(Book(4, 2, [(1, 3)])), [[(1, 3)]])
        self.assertEqual(pieces(Book(4, 4, [(0, 1, 2, 3)])), [[(0, 1, 2, 3)]])
        self.assertEqual(pieces(Book(6, 2, [(0, 5), (1, 2), (1, 3), (4, 5)])), [[(0, 5), (4, 5)], [(1, 2), (1, 3)]])
        self.assertEqual(pieces(Book(6, 3, [(0, 1, 2), (2, 3, 4)])), [[(0, 1, 2)], [(2, 3, 4)]])
        self.assertEqual(pieces(all_rooms(4, 1)), [[(0,), (1,), (2,), (3,)]])

    def test_1_lists_are_new(self):
        pieces(square_book())[0].clear()
        self.assertEqual(len(pieces(square_book())[0]), 4)


class Bonds(Case):
    def test_61_all_pairs_of_rooms(self):
        self.assertEqual(bond((0, 2), (2, 5)), 1)
        for size in range(1, 5):
            for first, second in itertools.product(itertools.combinations(range(6), size), repeat=2):
                self.assertEqual(bond(first, second), plain_bond(first, second))
        self.assertEqual((bond((1,), (4,)), bond((1,), (1,)), bond((0, 1), (2, 3)), bond((0, 1), (0, 2))), (-1, 0, 0, -1))


class Signs(Case):
    def test_62_books_with_signs_checked_by_counting(self):
        for book in two_each_books():
            word, chain = find_signs(book)
            self.assertEqual(word, "signs")
            self.assertEqual(signed_book(book), chain)
            self.assertEqual((chain.places, chain.degree), (book.places, book.size))
            signs = dict(chain.terms)
            self.assertEqual(sorted(signs), list(book.rooms))
            for piece in plain_pieces(book):
                self.assertEqual(signs[piece[0]], 1)
            for first, second in itertools.product(book.rooms, repeat=2):
                if plain_bond(first, second) != 0:
                    self.assertEqual(signs[second], signs[first] * plain_bond(first, second))
            self.assertTrue(is_signed(chain))

    def test_62_examples(self):
        self.assertEqual(find_signs(Book(4, 2, [])), ("signs", Chain(4, 2, [])))
        self.assertEqual(signed_book(square_book()),
                         Chain(4, 2, [((0, 1), 1), ((1, 2), 1), ((2, 3), 1), ((3, 0), 1)]))
        self.assertEqual(signed_book(Book(3, 1, [(1,), (2,)])), Chain(3, 1, [((1,), 1), ((2,), -1)]))

    def test_62_63_books_with_a_ring_of_turn_minus_one(self):
        for book in unsigned_books():
            word, ring = find_signs(book)
            self.assertEqual((word, type(ring)), ("ring", tuple))
            self.check_ring(book, ring)
            with self.assertRaises(NoSigns) as caught:
                signed_book(book)
            self.check_ring(book, caught.exception.ring)

    def check_ring(self, book, ring):
        self.assertIsInstance(ring, tuple)
        self.assertGreaterEqual(len(ring), 3)
        turn = 1
        for room, after in zip(ring, ring[1:] + ring[:1]):
            self.assertIn(room, book.rooms)
            turn *= plain_bond(room, after)
        self.assertEqual(turn, -1)
        self.assertEqual(ring_turn(book, ring), -1)

    def test_62_books_that_are_not_two_each(self):
        for book, face in ((ODD, (0,)), (all_rooms(4, 1), ()), (Book(3, 1, [(1,)]), ()), (Book(2, 2, [(0, 1)]), (0,)),
                           (Book(5, 2, [(0, 3), (0, 4), (1, 3), (1, 4), (2, 3), (2, 4)]), (3,)),
                           (Book(6, 3, [(1, 2, 4), (1, 2, 5), (3, 4, 5)]), (1, 4))):
            for call in (find_signs, signed_book, lambda book: ring_turn(book, ()), lambda book: ring_turn(book, [(9,)])):
                self.assertFails(NotTwoEach(face), call, book)

    def test_62_the_least_such_face_of_any_book(self):
        for book in [some_book(seed, 6, size) for seed in range(3) for size in (2, 3, 4)] + [some_even_book(1, 6, 2)]:
            faces = [room[:at] + room[at + 1:] for room in book.rooms for at in range(book.size)]
            least = min(face for face in faces if faces.count(face) != 2)
            self.assertFails(NotTwoEach(least), find_signs, book)


class Turns(Case):
    def test_63_rings_of_books_with_signs_have_the_turn_1(self):
        for book in two_each_books():
            for room in book.rooms[:6]:
                for ring in self.short_rings(book, room):
                    self.assertEqual(ring_turn(book, ring), 1)
                    self.assertEqual(ring_turn(book, list(ring)), 1)
        self.assertEqual(ring_turn(square_book(), ((0, 1), (1, 2), (2, 3), (0, 3))), 1)
        self.assertEqual(ring_turn(square_book(), ((0, 1), (1, 2), (0, 1), (0, 3))), 1)

    def short_rings(self, book, start):
        rows = [(start,)]
        for _ in range(4):
            rows = [row + (room,) for row in rows for room in book.rooms if plain_bond(row[-1], room) != 0]
            yield from (row for row in rows if len(row) > 2 and plain_bond(row[-1], start) != 0)

    def test_63_rings_of_the_plane(self):
        turns = set()
        for ring in self.short_rings(crossed_plane(), (0, 1, 2)):
            turn = 1
            for room, after in zip(ring, ring[1:] + ring[:1]):
                turn *= plain_bond(room, after)
            self.assertEqual(ring_turn(crossed_plane(), ring), turn)
            turns.add(turn)
        self.assertEqual(turns, {1, -1})

    def test_63_each_fault_with_its_index(self):
        book = square_book()
        for ring in ((), ((0, 1),), ((0, 1), (1, 2)), ((9, 9), (9, 9)), ((0, 1), (0, 1))):
            self.assertFails(BadPaper(0, "count"), ring_turn, book, ring)
            self.assertFails(BadPaper(0, "count"), ring_turn, book, list(ring))
        for ring, at in ((((0, 1), (0, 2), (2, 3)), 1), (((0, 1), (2, 3), (3, 2)), 2), (((1, 0), (0, 2), (0, 1)), 0),
                         (((0, 1), (0, 1), ()), 2), (((0, 1), (1, 2), (2, 3), (0, 3), (0, 1, 2)), 4)):
            self.assertFails(BadPaper(at, "room"), ring_turn, book, ring)
        for ring, at in ((((0, 1), (1, 2), (2, 3)), 2), (((0, 1), (2, 3), (1, 2)), 0), (((0, 1), (1, 2), (1, 2)), 1),
                         (((0, 1), (1, 2), (2, 3), (0, 1)), 2), (((0, 1), (1, 2), (2, 3), (0, 3), (0, 3)), 3),
                         (((0, 1), (1, 2), (2, 3), (0, 3), (0, 1)), 4)):
            self.assertFails(BadPaper(at, "face"), ring_turn, book, ring)


class Signed(Case):
    def test_11_63_signed_chains(self):
        for chain in ([signed_book(book) for book in two_each_books()]
                      + [Chain(3, 1, []), Chain(3, 9, []), Chain(4, 2, [((0, 1), 1), ((1, 2), 1), ((2, 0), 1)]),
                         Chain(6, 1, [((0,), 1), ((1,), 1), ((2,), -1), ((3,), -1)])]):
            self.assertIs(is_signed(chain), True)
            self.assertIs(is_signed(-chain), True)

    def test_11_63_chains_that_are_not_signed(self):
        ring = Chain(4, 2, [((0, 1), 1), ((1, 2), 1), ((2, 0), 1)])
        for chain in (Chain(4, 0, []), Chain(4, 0, [((), 1)]), 2 * ring, 2 * ring - ring + ring, Chain(4, 1, [((0,), 1)]),
                      Chain(4, 1, [((0,), 2), ((1,), -1), ((2,), -1)]), Chain(4, 2, [((0, 1), 1), ((1, 2), 1)]),
                      Chain.of_book(square_book()), Chain(2, 2, [((0, 1), 1)]),
                      Chain(4, 1, [((0,), 1), ((1,), -2), ((2,), 1)])):
            self.assertIs(is_signed(chain), False)
