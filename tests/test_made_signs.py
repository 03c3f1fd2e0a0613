"""Points 64 and 65."""

import itertools

from neveralone.books import Book
from neveralone.chains import Chain
from neveralone.errors import BadBook, BadChain, BadLabels, Mismatch
from neveralone.made_signs import boundary_chain, cross_chain, label_chain, ring_chain
from neveralone.makers import boundary_book, cross_book, label_book, ring_book
from neveralone.signs import is_signed
from tests.support import Case, sign

LABELS = ([1, 1, 1, 2, 2], [2, 1, 1, 2, 1, 2], [1, 2, 1], [3, 1, 3, 2, 1, 3, 3], [1, 1], [2, 1, 2, 3, 4, 4, 2, 1])
PAIRS = ((4, [(0, 1), (2, 3)]), (6, [(0, 5), (3, 4)]), (6, [(2, 5), (0, 3), (1, 4)]), (3, [(0, 2)]),
         (8, [(6, 7), (0, 5), (2, 3)]))


class Made(Case):
    def check_signed(self, chain, book):
        self.assertTrue(is_signed(chain))
        self.assertEqual(chain.odd_book(), book)
        self.assertEqual(len(chain), len(book))

    def test_64_boundaries(self):
        for places, corners in ((3, (0, 1, 2)), (5, (1, 3)), (6, (0, 2, 3, 5)), (12, tuple(range(12))), (2, (0, 1))):
            chain = boundary_chain(places, corners)
            self.check_signed(chain, boundary_book(places, corners))
            self.assertEqual(chain, Chain(places, len(corners) - 1, [(corners[:at] + corners[at + 1:], (-1) ** at)
                                                                     for at in range(len(corners))]))

    def test_64_errors_of_boundaries(self):
        for corners in ((), (0,), (9,)):
            self.assertFails(Mismatch("size"), boundary_chain, 4, corners)
            self.assertFails(Mismatch("size"), boundary_chain, 13, corners)
        self.assertFails(BadChain("places", 0), boundary_chain, 13, (0, 99))
        self.assertFails(BadChain("places", 0), boundary_chain, 0, (0, 1))
        for corners in ((0, 4), (-1, 2), (4, 4), (0, 1, 2, 3, 4)):
            self.assertFails(BadChain("place", 0), boundary_chain, 4, corners)
        self.assertFails(BadChain("twice", 0), boundary_chain, 4, (1, 1))

    def test_64_rings(self):
        for places in range(3, 11):
            for size in range(2, places, 2):
                chain = ring_chain(places, size)
                self.check_signed(chain, ring_book(places, size))
                for room, number in chain:
                    for outside in [place for place in range(places) if place not in room]:
                        self.assertEqual(number, (-1) ** sum(1 for place in room if place > outside))
        self.assertEqual(ring_chain(4, 2).terms, (((0, 1), 1), ((0, 3), -1), ((1, 2), 1), ((2, 3), 1)))
        self.check_signed(ring_chain(12, 6), ring_book(12, 6))

    def test_64_errors_of_rings(self):
        for places, size in ((5, 3), (5, 1), (5, 0), (5, -2), (4, 4), (5, 6), (13, 14), (13, 3)):
            self.assertFails(Mismatch("size"), ring_chain, places, size)
        self.assertFails(BadBook("places", 0), ring_chain, 13, 2)
        self.assertFails(BadBook("places", 0), ring_chain, 13, 12)

    def test_65_labels(self):
        for labels in LABELS:
            kinds = max(labels)
            for given in (labels, tuple(labels)):
                chain = label_chain(given, kinds)
                self.check_signed(chain, label_book(labels, kinds))
                self.assertEqual(chain, Chain(len(labels), len(labels) - kinds, self.label_terms(labels, kinds)))

    def label_terms(self, labels, kinds):
        """A row has the places of label 1 but one, then those of label 2 but one, and so on."""
        groups = [[place for place in range(len(labels)) if labels[place] == kind] for kind in range(1, kinds + 1)]
        lefts = itertools.product(*[range(len(group)) for group in groups])
        return [(sum((tuple(group[:at] + group[at + 1:]) for group, at in zip(groups, left)), ()), (-1) ** sum(left))
                for left in lefts]

    def test_65_labels_that_only_one_place_has(self):
        self.assertEqual(label_chain([1, 2, 1], 2), Chain(3, 1, [((2,), 1), ((0,), -1)]))
        self.assertEqual(label_chain([3, 2, 1, 1, 4], 4), Chain(5, 1, [((3,), 1), ((2,), -1)]))

    def test_65_errors_of_labels_in_their_order(self):
        long = [1, 2] * 6
        for labels, kinds in (([1, 1], 0), ([9, 9], 2), ([], 1), ([1, 1], -1), (long + [1], 13)):
            self.assertFails(BadLabels("kinds", kinds), label_chain, labels, kinds)
        self.assertFails(BadLabels("label", 1), label_chain, [1, 4, 0, 1], 3)
        self.assertFails(BadLabels("label", 13), label_chain, long + [1, 3], 2)
        self.assertFails(BadLabels("unused", 2), label_chain, [1, 1, 4, 1, 1], 4)
        self.assertFails(BadLabels("unused", 3), label_chain, long + [1], 3)
        self.assertFails(BadBook("places", 0), label_chain, long + [1], 2)

    def test_65_crosses(self):
        for places, pairs in PAIRS:
            for given in (pairs, tuple(pairs), pairs[::-1]):
                chain = cross_chain(places, given)
                self.check_signed(chain, cross_book(places, given))
                # The boundary of a pair (a, b) is b less a, and a product has the rows of one place of each pair.
                rows = [(row, (-1) ** sum(1 for pair, place in zip(given, row) if place == pair[0]))
                        for row in itertools.product(*given)]
                self.assertEqual(chain, Chain(places, len(given), rows))

    def test_65_pairs_in_another_order(self):
        pairs = [(0, 5), (2, 3), (1, 4)]
        for order in itertools.permutations(range(3)):
            turned = [pairs[at] for at in order]
            self.assertEqual(cross_chain(6, turned), sign(order) * cross_chain(6, pairs))

    def test_65_errors_of_crosses_in_their_order(self):
        for pairs in ([], [(0, 1), (2,)], [(0, 1), (1, 2)], [(2, 2)], [(0, 1, 2)], [(9, 1), (1, 8)]):
            self.assertFails(Mismatch("pairs"), cross_chain, 4, pairs)
            self.assertFails(Mismatch("pairs"), cross_chain, 13, pairs)
        self.assertFails(BadBook("places", 0), cross_chain, 13, [(0, 1), (2, 99)])
        self.assertFails(BadBook("size", 0), cross_chain, 1, [(0, 1)])
        self.assertFails(BadBook("place", 1), cross_chain, 4, [(0, 1), (2, 4)])

    def test_64_65_the_odd_books_are_two_each(self):
        for chain in (boundary_chain(5, (0, 2, 4)), ring_chain(9, 4), label_chain(LABELS[3], 3), cross_chain(*PAIRS[4])):
            self.assertTrue(chain.odd_book().is_two_each)
            self.assertEqual(chain.boundary().terms, ())
            self.assertIsInstance(chain.odd_book(), Book)
