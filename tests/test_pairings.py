"""Points 119 and 120, as far as they are about pairings and barriers."""

import itertools

from neveralone.books import Book
from neveralone.errors import BadFamily, BadRule, BadWeb, Mismatch, NotAPartition
from neveralone.lotpaths import lot_mate
from neveralone.makers import all_rooms
from neveralone.pairings import find_pairing, odd_pieces, second_pairing
from tests.support import Case, lots_of, order_path, rooms_over, some_book, some_even_book, square_book
from tests.test_webs import pieces_of

# An odd ring with a tail, two odd rings that a place joins, and a star.
TAIL = Book(5, 2, [(0, 1), (0, 2), (1, 2), (2, 3)])
RINGS = Book(8, 2, [(0, 1), (0, 2), (1, 2), (2, 3), (3, 4), (4, 5), (4, 6), (5, 6)])
STAR = Book(6, 2, [(0, 5), (1, 5), (2, 5), (3, 5), (4, 5)])


def plain_odd(web, room):
    """The number of odd pieces without the places of a room."""
    ties = [tie for tie in web.rooms if not set(tie) & set(room)]
    pieces = pieces_of(Book(web.places, 2, ties))
    return sum(len(piece) % 2 for piece in pieces if not set(piece) & set(room))


def is_pairing(web, lot):
    return (type(lot) is tuple and list(lot) == sorted(lot) and all(tie in web for tie in lot)
            and sorted(place for tie in lot for place in tie) == list(range(web.places)))


class Pairings(Case):
    def check_found(self, web):
        word, found = find_pairing(web)
        if word == "pairing":
            self.assertTrue(is_pairing(web, found))
        else:
            self.assertEqual((word, type(found)), ("barrier", tuple))
            self.assertEqual(list(found), sorted(set(found)))
            self.assertTrue(all(0 <= place < web.places for place in found))
            self.assertLess(len(found), plain_odd(web, found))
            self.assertLess(len(found), odd_pieces(web, found))
        return word

    def test_120_all_webs_of_up_to_five_places(self):
        for places in range(2, 6):
            ties = rooms_over(places, 2)
            for chosen in itertools.product((False, True), repeat=len(ties)):
                web = Book(places, 2, [tie for tie, taken in zip(ties, chosen) if taken])
                self.assertEqual(self.check_found(web) == "pairing", bool(lots_of(web)) and places % 2 == 0)

    def test_120_webs_of_more_places(self):
        words = set()
        for places in range(6, 13):
            for seed in range(12):
                ties = some_book(seed, places, 2).rooms
                for step in (1, 2, 3, 4):
                    web = Book(places, 2, ties[::step])
                    words.add((places % 2, self.check_found(web)))
        self.assertEqual(words, {(0, "pairing"), (0, "barrier"), (1, "barrier")})

    def test_120_a_pairing_wherever_there_is_one(self):
        for seed in range(40):
            web = Book(8, 2, some_book(seed, 8, 2).rooms[::2])
            self.assertEqual(self.check_found(web) == "pairing", bool(lots_of(web)))

    def test_120_an_odd_number_of_places_and_no_ties(self):
        for places in (2, 3, 8, 12):
            self.assertEqual(self.check_found(Book(places, 2, [])), "barrier")
        for places in (3, 5, 7, 9, 11):
            self.assertEqual(self.check_found(all_rooms(places, 2)), "barrier")
            # Only the empty room is a barrier here.
            self.assertEqual(find_pairing(all_rooms(places, 2)), ("barrier", ()))
        self.assertEqual(find_pairing(all_rooms(2, 2)), ("pairing", ((0, 1),)))

    def test_120_odd_rings_with_tails(self):
        self.assertEqual(self.check_found(TAIL), "barrier")
        self.assertEqual(self.check_found(RINGS), "barrier")
        self.assertEqual(find_pairing(STAR), ("barrier", (5,)))
        self.assertEqual(find_pairing(Book(4, 2, [(0, 1), (0, 2), (1, 2), (2, 3)])), ("pairing", ((0, 1), (2, 3))))
        self.assertEqual(find_pairing(Book(6, 2, [(0, 1), (0, 2), (1, 2), (2, 3), (3, 4), (3, 5), (4, 5)])),
                         ("pairing", ((0, 1), (2, 3), (4, 5))))

    def test_120_odd_pieces(self):
        for web in (TAIL, RINGS, STAR, Book(6, 2, []), all_rooms(6, 2), some_book(1, 7, 2)):
            for size in range(web.places + 1):
                for room in rooms_over(web.places, size):
                    self.assertEqual(odd_pieces(web, room), plain_odd(web, room))

    def test_120_the_empty_room_and_the_room_of_all_places(self):
        self.assertEqual([odd_pieces(web, ()) for web in (TAIL, RINGS, STAR, Book(5, 2, []))], [1, 2, 0, 5])
        self.assertEqual([odd_pieces(web, tuple(range(web.places))) for web in (TAIL, RINGS, STAR)], [0, 0, 0])
        self.assertEqual([odd_pieces(STAR, (5,)), odd_pieces(RINGS, (3,)), odd_pieces(TAIL, (2,))], [5, 3, 2])


class SecondPairings(Case):
    def test_119_the_mate_of_a_pairing(self):
        for web in (square_book(), some_even_book(1, 6, 2), some_even_book(3, 8, 2), Book(6, 2, all_rooms(6, 2).rooms[1:])):
            if not web.is_even:
                continue
            for order in ("next", "ends", "far"):
                for pairing in lots_of(web)[:10]:
                    for target in range(web.places):
                        told = second_pairing(web, pairing, target, order=order)
                        self.assertEqual(told, lot_mate(web, pairing, target, order))
                        self.assertTrue(is_pairing(web, told))
                        self.assertNotEqual(told, pairing)
        self.assertEqual(second_pairing(square_book(), [(0, 1), (2, 3)], 0), ((0, 3), (1, 2)))

    def test_119_the_order_is_passed_by_keyword(self):
        with self.assertRaises(TypeError):
            second_pairing(square_book(), ((0, 1), (2, 3)), 0, "next")
        web = Book(6, 2, [tie for tie in all_rooms(6, 2).rooms if tie not in ((0, 1), (2, 3), (4, 5))])
        seen = {second_pairing(web, lot, target, order=order) == second_pairing(web, lot, target)
                for lot in lots_of(web) for target in range(6) for order in ("ends", "far")}
        self.assertEqual(seen, {True, False})
        lot = lots_of(web)[0]
        plain = tuple(sorted(order_path([web] * 3, lot, 5, "ends")[-1]))
        self.assertEqual(second_pairing(web, lot, 5, order="ends"), plain)

    def test_119_errors_in_their_order(self):
        triangle = all_rooms(3, 2)
        self.assertFails(BadWeb("size", 3), second_pairing, all_rooms(4, 3), (), 9, order="")
        self.assertFails(BadWeb("odd", 0), second_pairing, Book(3, 2, [(0, 1)]), (), 9, order="")
        self.assertFails(BadFamily("lots", 2), second_pairing, triangle, (), 9, order="")
        self.assertFails(Mismatch("target"), second_pairing, square_book(), (), 4, order="")
        self.assertFails(Mismatch("target"), second_pairing, square_book(), (), -1, order="")
        self.assertFails(BadRule("order", ()), second_pairing, square_book(), (), 0, order="")
        for fault, lot in (("count", ()), ("room", ((0, 1), (1, 3))), ("room", ((1, 0), (2, 3))), ("order", ((2, 3), (0, 1))),
                           ("place", ((0, 1), (1, 2)))):
            self.assertFails(NotAPartition(fault), second_pairing, square_book(), lot, 0)
