"""Points 117 to 119, as far as they are about walks, arrows and rings."""

import itertools
import random

from neveralone.books import Book
from neveralone.errors import BadBook, BadWeb
from neveralone.makers import all_rooms, total
from neveralone.pairings import find_pairing, odd_pieces, second_pairing
from neveralone.signs import is_signed
from neveralone.trees import tree_book, tree_chain
from neveralone.webs import arrows, closed_ring, closed_walks, ring_parts, web_degrees
from tests.support import Case, rooms_over, some_book, some_even_book, square_book

ANY_WEB = (web_degrees, lambda web: odd_pieces(web, ()), find_pairing)
EVEN_WEB = (closed_walks, arrows, ring_parts, lambda web: second_pairing(web, (), -1), tree_book, tree_chain,
            lambda web: second_pairing(web, (), 99, order="none"))


def even_webs():
    """Even webs of all numbers of places, and some with several pieces."""
    webs = [some_even_book(seed, places, 2) for places in range(3, 13) for seed in range(3)]
    webs += [Book(places, 2, []) for places in (2, 5, 12)] + [all_rooms(places, 2) for places in (3, 5, 7, 11)]
    return webs + [several_pieces(seed) for seed in range(20)]


def several_pieces(seed):
    """An even web of one, two or three rings, with or without common places."""
    chance = random.Random(f"pieces {seed}")
    places = chance.randint(6, 12)
    rings = [closed_ring(places, chance.sample(range(places), chance.randint(3, 4))) for _ in range(chance.randint(1, 3))]
    return total(*rings)


def pieces_of(web):
    """The pieces of the places, as ascending tuples, by their least places."""
    pieces = [{place} for place in range(web.places)]
    for tie in web.rooms:
        joined = [piece for piece in pieces if piece & set(tie)]
        pieces = [piece for piece in pieces if piece not in joined] + [set().union(*joined)]
    return sorted(tuple(sorted(piece)) for piece in pieces)


def pieces_with_ties(web):
    return [piece for piece in pieces_of(web) if len(piece) > 1]


def ties_along(places):
    return [tuple(sorted(pair)) for pair in zip(places, places[1:])]


class Faults(Case):
    def test_117_books_of_other_sizes(self):
        for book in (Book(3, 1, []), Book(3, 1, [(0,)]), Book(4, 3, []), all_rooms(4, 3), Book(5, 4, [(0, 1, 2, 3)]), all_rooms(4, 1)):
            for call in ANY_WEB + EVEN_WEB:
                self.assertFails(BadWeb("size", book.size), call, book)

    def test_117_webs_with_odd_degrees(self):
        for rooms, place in (([(2, 3)], 2), ([(0, 1), (0, 2)], 1), ([(0, 1), (1, 2), (0, 2), (3, 4)], 3), ([(0, 4)], 0),
                             ([(0, 1), (0, 2), (0, 3), (0, 4)], 1)):
            web = Book(5, 2, rooms)
            for call in EVEN_WEB:
                self.assertFails(BadWeb("odd", place), call, web)
            for call in ANY_WEB:
                call(web)

    def test_117_the_least_place_with_an_odd_degree(self):
        for seed in range(30):
            web = some_book(seed, 7, 2)
            odd = [place for place in range(7) if sum(place in tie for tie in web.rooms) % 2]
            for call in EVEN_WEB:
                if odd:
                    self.assertFails(BadWeb("odd", odd[0]), call, web)


class Walks(Case):
    def test_117_degrees(self):
        for seed in range(5):
            for places in range(2, 13):
                web = some_book(seed, places, 2)
                self.assertEqual(web_degrees(web), [sum(place in tie for tie in web.rooms) for place in range(places)])
        self.assertEqual(web_degrees(Book(4, 2, [(1, 2), (1, 3)])), [0, 2, 1, 1])
        self.assertEqual(web_degrees(Book(2, 2, [])), [0, 0])

    def test_118_closed_walks(self):
        counts = set()
        for web in even_webs():
            walks = closed_walks(web)
            pieces = pieces_with_ties(web)
            counts.add(len(walks))
            self.assertEqual(len(walks), len(pieces))
            for walk, piece in zip(walks, pieces):
                self.assertIs(type(walk), list)
                self.assertEqual((walk[0], walk[-1]), (piece[0], piece[0]))
                self.assertEqual(sorted(ties_along(walk)), [tie for tie in web.rooms if tie[0] in piece])
        self.assertTrue({0, 1, 2} <= counts)

    def test_118_all_even_webs_of_five_places(self):
        for chosen in itertools.chain.from_iterable(itertools.combinations(rooms_over(5, 2), many) for many in range(11)):
            web = Book(5, 2, chosen)
            if web.is_even:
                walks = closed_walks(web)
                self.assertEqual([walk[0] for walk in walks], [piece[0] for piece in pieces_with_ties(web)])
                self.assertEqual(sorted(tie for walk in walks for tie in ties_along(walk)), list(web.rooms))
                self.assertEqual(arrows(web).odd_book(), web)

    def test_118_several_pieces_and_none(self):
        two = Book(8, 2, [(1, 3), (1, 4), (3, 4), (2, 5), (2, 7), (5, 7)])
        self.assertEqual([(walk[0], len(walk)) for walk in closed_walks(two)], [(1, 4), (2, 4)])
        self.assertEqual(closed_walks(Book(4, 2, [])), [])
        self.assertEqual(ring_parts(Book(4, 2, [])), [])
        self.assertEqual(arrows(Book(4, 2, [])).terms, ())

    def test_118_arrows_are_the_steps_of_the_closed_walks(self):
        for web in even_webs():
            chain = arrows(web)
            terms = {}
            for walk in closed_walks(web):
                for first, second in zip(walk, walk[1:]):
                    terms[tuple(sorted((first, second)))] = 1 if first < second else -1
            self.assertEqual((chain.places, chain.degree, chain.terms), (web.places, 2, tuple(sorted(terms.items()))))
            self.assertTrue(is_signed(chain))
            self.assertEqual(chain.odd_book(), web)

    def test_119_rings(self):
        for web in even_webs():
            rings = ring_parts(web)
            for ring in rings:
                self.assertIs(type(ring), tuple)
                self.assertGreaterEqual(len(ring), 3)
                self.assertEqual(len(set(ring)), len(ring))
            self.assertEqual(sorted(tie for ring in rings for tie in ties_along(ring + ring[:1])), list(web.rooms))

    def test_119_two_rings_with_a_common_place(self):
        eight = Book(5, 2, [(0, 1), (0, 2), (1, 2), (2, 3), (2, 4), (3, 4)])
        self.assertEqual(sorted(tuple(sorted(ring)) for ring in ring_parts(eight)), [(0, 1, 2), (2, 3, 4)])
        self.assertEqual(len(closed_walks(eight)[0]), 7)

    def test_1_lists_are_new(self):
        web = square_book()
        for call in (closed_walks, ring_parts, web_degrees):
            call(web).clear()
        closed_walks(web)[0].clear()
        self.assertEqual([len(call(web)) for call in (closed_walks, ring_parts, web_degrees)], [1, 1, 4])
        self.assertEqual(len(closed_walks(web)[0]), 5)


class ClosedRing(Case):
    def test_119_rings_of_places(self):
        self.assertEqual(closed_ring(4, (0, 1, 2, 3)), square_book())
        self.assertEqual(closed_ring(12, [7, 3, 11]), Book(12, 2, [(3, 7), (3, 11), (7, 11)]))
        for places in range(3, 13):
            order = random.Random(places).sample(range(places), places)
            web = closed_ring(places, order)
            self.assertEqual(web, Book(places, 2, sorted(ties_along(order + order[:1]))))
            self.assertEqual(web_degrees(web), [2] * places)
            self.assertEqual(closed_ring(places, tuple(order)), web)

    def test_119_fewer_than_three_places_and_a_place_twice(self):
        for order, different in (((), 0), ((0,), 1), ((0, 1), 2), ((0, 0), 1), ((1, 1, 1), 1), ((0, 1, 0), 2), ((0, 1, 2, 0), 3),
                                 ((0, 1, 2, 3, 1), 4), ((9, 9, 8, 7), 3), ((-1, -1, 99, 50), 3)):
            for places in (4, 0, 13):
                self.assertFails(BadWeb("ring", different), closed_ring, places, order)
                self.assertFails(BadWeb("ring", different), closed_ring, places, list(order))

    def test_119_as_a_book_of_the_ties(self):
        for places, order, fault, at in ((0, (0, 1, 2), "places", 0), (13, (0, 1, 2), "places", 0), (1, (0, 1, 2), "size", 0),
                                         (2, (0, 1, 2), "place", 1), (4, (0, 1, 4), "place", 1), (4, (4, 1, 2), "place", 0),
                                         (4, (0, 1, 2, -1), "place", 2), (4, (0, 1, 2, 3, 10 ** 40), "place", 3),
                                         (12, tuple(range(13)), "place", 11)):
            self.assertFails(BadBook(fault, at), closed_ring, places, order)
