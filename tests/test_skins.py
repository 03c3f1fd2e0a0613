"""Points 123 and 124."""

from neveralone.books import Book
from neveralone.errors import BadFamily, BadRule, BadWeb, Mismatch, NotAPartition, NotEven, TooMany
from neveralone.lotpaths import lot_mate
from neveralone.lots import list_lots
from neveralone.makers import all_rooms, boundary_book, cross_book
from neveralone.skins import euler_number, is_surface, second_triangles, triangle_lots
from tests.support import Case, crossed_plane, lots_of, odd_faces_of, some_even_book

CALLS = (euler_number, is_surface, triangle_lots, lambda book: second_triangles(book, (), -1, order="none"))


def torus():
    """The ring's kind of surface with seven places and fourteen rooms."""
    return Book(7, 3, [tuple((at + step) % 7 for step in steps) for at in range(7) for steps in ((0, 1, 3), (0, 2, 3))])


def two_balls():
    """Two skins of a ball's kind that meet at the place 0."""
    return boundary_book(7, (0, 1, 2, 3)) ^ boundary_book(7, (0, 4, 5, 6))


class Faults(Case):
    def test_123_books_of_other_sizes(self):
        for book in (Book(4, 2, []), all_rooms(4, 2), Book(4, 4, []), Book(4, 1, [(0,)]), Book(6, 2, [(0, 1)]), Book(8, 4, [(0, 1, 2, 3)])):
            for call in CALLS:
                self.assertFails(BadWeb("size", book.size), call, book)


class Surfaces(Case):
    def assertSkin(self, book, number, surface):
        self.assertEqual(euler_number(book), number)
        self.assertIs(is_surface(book), surface)

    def test_124_surfaces_of_a_balls_kind(self):
        self.assertSkin(boundary_book(4, (0, 1, 2, 3)), 2, True)
        self.assertSkin(boundary_book(12, (2, 5, 7, 11)), 2, True)
        self.assertSkin(cross_book(6, [(0, 1), (2, 3), (4, 5)]), 2, True)
        cube = [(0, 1, 3), (0, 2, 3), (4, 5, 7), (4, 6, 7), (0, 1, 5), (0, 4, 5), (2, 3, 7), (2, 6, 7), (0, 2, 6), (0, 4, 6),
                (1, 3, 7), (1, 5, 7)]
        self.assertSkin(Book(8, 3, cube), 2, True)

    def test_124_surfaces_of_other_kinds(self):
        self.assertSkin(torus(), 0, True)
        self.assertSkin(crossed_plane(), 1, True)

    def test_124_skins_that_are_no_surface(self):
        self.assertSkin(two_balls(), 3, False)
        self.assertTrue(two_balls().is_two_each)
        self.assertSkin(boundary_book(8, (0, 1, 2, 3)) ^ boundary_book(8, (4, 5, 6, 7)), 4, True)
        self.assertSkin(all_rooms(6, 3), 6 - 15 + 20, False)
        self.assertSkin(Book(3, 3, [(0, 1, 2)]), 1, False)
        self.assertSkin(Book(5, 3, [(0, 1, 2), (2, 3, 4)]), 5 - 6 + 2, False)

    def test_124_skins_without_rooms(self):
        for places in (3, 7, 12):
            self.assertSkin(Book(places, 3, []), 0, False)

    def test_124_places_and_faces_are_counted_once(self):
        for seed in range(10):
            book = some_even_book(seed, 7, 3)
            faces = {room[:at] + room[at + 1:] for room in book.rooms for at in range(3)}
            self.assertEqual(euler_number(book), len({place for room in book.rooms for place in room}) - len(faces) + len(book))
        self.assertEqual(odd_faces_of(list(torus().rooms)), [])

    def test_124_one_faulty_place_is_enough(self):
        # A ball's skin beside the skins that meet, with the faulty place in the middle and at the end.
        for images in ((3, 0, 1, 2, 4, 5, 6), (6, 0, 1, 2, 3, 4, 5)):
            book = Book(11, 3, [tuple(images[place] for place in room) for room in two_balls().rooms])
            self.assertIs(is_surface(book), False)
            self.assertIs(is_surface(book ^ boundary_book(11, (7, 8, 9, 10))), False)


class Lots(Case):
    def test_123_lots_of_skins(self):
        for book in (cross_book(6, [(0, 1), (2, 3), (4, 5)]), all_rooms(6, 3), some_even_book(1, 9, 3), Book(6, 3, [])):
            self.assertEqual(triangle_lots(book), lots_of(book))
        self.assertFails(TooMany("lots", 5000), triangle_lots, all_rooms(12, 3))

    def test_123_the_mate_with_each_order(self):
        seen = set()
        for book in (all_rooms(6, 3), some_even_book(1, 9, 3), cross_book(6, [(0, 1), (2, 3), (4, 5)])):
            for lot in list_lots(book)[:6]:
                for target in range(book.places):
                    told = [second_triangles(book, lot, target, order=order) for order in ("next", "ends", "far")]
                    self.assertEqual(told, [lot_mate(book, lot, target, order) for order in ("next", "ends", "far")])
                    self.assertEqual(second_triangles(book, list(lot), target), told[0])
                    seen.add(len(set(told)))
        self.assertTrue({1, 2} <= seen)

    def test_123_errors_in_their_order(self):
        book = all_rooms(6, 3)
        lot = ((0, 1, 2), (3, 4, 5))
        for call in (triangle_lots, lambda book: second_triangles(book, (), -1, order="")):
            self.assertFails(BadFamily("lots", 3), call, Book(4, 3, []))
            self.assertFails(BadFamily("lots", 3), call, Book(7, 3, [(0, 1, 2)]))
            self.assertFails(NotEven(0, (0, 1)), call, Book(6, 3, [(0, 1, 2)]))
        self.assertFails(Mismatch("target"), second_triangles, book, (), 6, order="")
        for order in ("", "Next", "first"):
            self.assertFails(BadRule("order", ()), second_triangles, book, (), 0, order=order)
            self.assertFails(BadRule("order", ()), second_triangles, book, lot, 0, order=order)
        self.assertFails(NotAPartition("count"), second_triangles, book, lot[:1], 0)
        self.assertFails(NotAPartition("order"), second_triangles, book, lot[::-1], 0)
        with self.assertRaises(TypeError):
            second_triangles(book, lot, 0, "next")
