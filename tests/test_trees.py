"""Points 121 and 122."""

import itertools

from neveralone.books import Book
from neveralone.chains import Chain
from neveralone.errors import BadWeb
from neveralone.makers import all_rooms, ring_book
from neveralone.signs import is_signed
from neveralone.trees import tree_book, tree_chain
from neveralone.webs import arrows, closed_ring
from tests.support import Case, plain_determinant, some_even_book
from tests.test_webs import even_webs, pieces_of, pieces_with_ties, several_pieces


def webs_for_trees():
    """Even webs with one piece with ties, at most 12 of them."""
    webs = even_webs() + [several_pieces(seed) for seed in range(20, 60)] + [closed_ring(12, range(12))]
    webs += [some_even_book(seed, 5, 2) for seed in range(5)] + [ring_book(6, 2)]
    return [web for web in webs if len(pieces_with_ties(web)) == 1 and len(web) <= 12]


def plain_trees(web):
    """The sets of ties, one less than places of the piece, that join all places of it."""
    piece, = pieces_with_ties(web)
    found = []
    for chosen in itertools.combinations(range(len(web)), len(piece) - 1):
        joined = pieces_of(Book(web.places, 2, [web.rooms[at] for at in chosen]))
        if piece in joined:
            found.append(chosen)
    return found


class Trees(Case):
    def test_121_the_tree_book(self):
        seen = 0
        for web in webs_for_trees():
            piece, = pieces_with_ties(web)
            book = tree_book(web)
            self.assertEqual(book, Book(len(web), len(piece) - 1, plain_trees(web)))
            self.assertTrue(book.is_even)
            seen += len(piece) < web.places
        self.assertGreater(seen, 10)

    def test_121_rings_and_all_ties(self):
        self.assertEqual(tree_book(all_rooms(3, 2)), all_rooms(3, 2))
        self.assertEqual(tree_book(closed_ring(9, (7, 1, 4))), all_rooms(3, 2))
        self.assertEqual(tree_book(closed_ring(12, range(12))), all_rooms(12, 11))
        self.assertEqual(len(tree_book(all_rooms(5, 2))), 5 ** 3)

    def test_121_twelve_and_thirteen_ties(self):
        # Three rings of four ties at one place have 12 ties, and with one of five ties they have 13.
        rings = closed_ring(10, (0, 1, 2, 3)) ^ closed_ring(10, (0, 4, 5, 6))
        twelve = rings ^ closed_ring(10, (0, 7, 8, 9))
        self.assertEqual((len(twelve), len(tree_book(twelve)), tree_book(twelve).size), (12, 64, 9))
        thirteen = Book(11, 2, rings.rooms) ^ closed_ring(11, (0, 7, 8, 9, 10))
        self.assertEqual(len(thirteen), 13)
        for call in (tree_book, tree_chain):
            self.assertFails(BadWeb("ties", 13), call, thirteen)
            self.assertFails(BadWeb("ties", 21), call, all_rooms(7, 2))
            self.assertFails(BadWeb("ties", 55), call, all_rooms(11, 2))

    def test_121_no_piece_and_two_pieces_with_ties(self):
        for call in (tree_book, tree_chain):
            for places in (2, 7, 12):
                self.assertFails(BadWeb("pieces", 0), call, Book(places, 2, []))
            self.assertFails(BadWeb("pieces", 2), call, closed_ring(8, (0, 1, 2)) ^ closed_ring(8, (3, 5, 6)))
            four = [(first + at, second + at) for at in (0, 3, 6, 9) for first, second in ((0, 1), (0, 2), (1, 2))]
            self.assertFails(BadWeb("pieces", 4), call, Book(12, 2, four))

    def test_121_odd_ahead_of_pieces_ahead_of_ties(self):
        many = [tie for tie in all_rooms(12, 2).rooms if tie[1] < 7]
        for call in (tree_book, tree_chain):
            self.assertFails(BadWeb("size", 3), call, all_rooms(4, 3))
            self.assertFails(BadWeb("odd", 10), call, Book(12, 2, many + [(10, 11)]))
            self.assertFails(BadWeb("odd", 3), call, Book(5, 2, [(0, 1), (0, 2), (1, 2), (3, 4)]))
            self.assertFails(BadWeb("pieces", 2), call, Book(12, 2, many + [(8, 9), (8, 10), (9, 10)]))

    def test_122_the_tree_chain(self):
        for web in webs_for_trees():
            piece, = pieces_with_ties(web)
            drawn = dict(arrows(web).terms)
            lines = []
            for place in piece[:-1]:
                lines.append([drawn[tie] * ((place == tie[0]) - (place == tie[1])) for tie in web.rooms])
            chain = tree_chain(web)
            self.assertEqual((chain.places, chain.degree), (len(web), len(piece) - 1))
            if len(piece) <= 6:
                # The coefficient of some ties is the determinant of their columns.
                terms = [(chosen, plain_determinant([[line[at] for at in chosen] for line in lines]))
                         for chosen in itertools.combinations(range(len(web)), len(piece) - 1)]
                self.assertEqual(chain, Chain(len(web), len(piece) - 1, terms))
            self.assertTrue(is_signed(chain))
            self.assertEqual(chain.odd_book(), tree_book(web))

    def test_122_a_ring_of_three(self):
        web = all_rooms(3, 2)
        signs = dict(arrows(web).terms)
        first = Chain(3, 1, [((0,), signs[(0, 1)]), ((1,), signs[(0, 2)])])
        second = Chain(3, 1, [((0,), -signs[(0, 1)]), ((2,), signs[(1, 2)])])
        self.assertEqual(tree_chain(web), first * second)
