"""Points 66 to 68."""

import math
import random

from neveralone.balance import balance, lot_balance, lot_sign, partition_sign, signed_count, signed_family
from neveralone.chains import Chain
from neveralone.errors import BadBook, BadFamily, Mismatch, NotAPartition, NotSigned, TooMany
from neveralone.families import Family
from neveralone.lots import list_lots, lot_family
from neveralone.made_signs import boundary_chain, label_chain, ring_chain
from neveralone.signs import signed_book
from tests.support import Case, all_signed, lots_of, partitions_of, sign, sign_in, some_signed, square_book

SHAPES = ((2, 2), (1, 1, 1), (1, 2, 3), (3, 3), (2, 2, 2), (1, 1, 2, 2), (2, 1, 1))
UNSIGNED = (Chain(4, 2, [((0, 1), 1)]), Chain(4, 0, [((), 1)]), Chain(4, 0, []), 2 * ring_chain(4, 2),
            Chain.of_book(square_book()))
BEYOND = Chain(4, 5, [])


def round_chain(many):
    """A chain of degree 1 with all places, 1 and -1 in turn."""
    return Chain(many, 1, [((place,), (-1) ** place) for place in range(many)])


def circle_chain():
    """A signed book of all pairs of 12 places but the opposite ones; it has 6040 lots."""
    return Chain(12, 2, [((place, (place + by) % 12), 1) for place in range(12) for by in range(1, 6)])


class Families(Case):
    def test_66_the_odd_books_in_order(self):
        for sizes in SHAPES:
            for chains in all_signed(sizes, range(3)):
                self.assertEqual(signed_family(chains), Family([chain.odd_book() for chain in chains]))
                self.assertEqual(signed_family(tuple(chains)).books, tuple(chain.odd_book() for chain in chains))
        empty = signed_family([Chain(4, 2, []), ring_chain(4, 2)])
        self.assertEqual([len(book) for book in empty], [0, 4])

    def test_66_signs_of_partitions(self):
        seen = set()
        for sizes in SHAPES:
            for chains in all_signed(sizes, range(3)):
                for row in partitions_of(signed_family(chains)):
                    told = partition_sign(chains, row)
                    self.assertEqual(told, sign_in(chains, row))
                    self.assertEqual(partition_sign(tuple(chains), list(row)), told)
                    self.assertEqual(partition_sign([-chains[0]] + chains[1:], row), -told)
                    seen.add(told)
        self.assertEqual(seen, {1, -1})

    def test_66_an_example_by_hand(self):
        chains = [ring_chain(4, 2)] * 2
        self.assertEqual(partition_sign(chains, ((0, 1), (2, 3))), 1)
        self.assertEqual(partition_sign(chains, ((0, 3), (1, 2))), -1)
        self.assertEqual(partition_sign([round_chain(2)] * 2, ((1,), (0,))), 1)
        self.assertEqual(partition_sign([round_chain(2)] * 2, ((0,), (1,))), -1)

    def test_66_67_errors_in_their_order(self):
        ring = ring_chain(4, 2)
        calls = (signed_family, balance, lambda chains: partition_sign(chains, ()),
                 lambda chains: partition_sign(chains, ((9,), (9,))))
        for call in calls:
            self.assertFails(BadFamily("none", 0), call, [])
            self.assertFails(BadFamily("none", 0), call, ())
            for wrong in UNSIGNED:
                self.assertFails(NotSigned(0), call, [wrong, BEYOND])
                self.assertFails(NotSigned(1), call, [ring, wrong])
                self.assertFails(NotSigned(2), call, [BEYOND, ring_chain(5, 2), wrong, wrong])
            self.assertFails(BadBook("size", 0), call, [ring, BEYOND])
            self.assertFails(BadBook("size", 0), call, [ring, ring_chain(5, 2), Chain(3, 10 ** 30, [])])
            self.assertFails(BadFamily("places", 1), call, [ring, ring_chain(5, 2)])
            self.assertFails(BadFamily("places", 2), call, [ring, ring, ring_chain(5, 2)])
            self.assertFails(BadFamily("sizes", 3), call, [ring] * 3)
            self.assertFails(BadFamily("sizes", 1), call, [ring])
        for row, fault in (((), "count"), (((0, 2), (1, 3)), "room"), (((0, 1), (0, 1)), "place")):
            self.assertFails(NotAPartition(fault), partition_sign, [ring, ring], row)


class Balances(Case):
    def test_67_both_numbers_counted_by_hand(self):
        seen = 0
        for sizes in SHAPES:
            for chains in all_signed(sizes, range(6)):
                signs = [sign_in(chains, row) for row in partitions_of(signed_family(chains))]
                self.assertEqual(balance(chains), (signs.count(1), signs.count(-1)))
                self.assertEqual(signs.count(1), signs.count(-1))
                self.assertEqual(signed_count(chains), 0)
                seen += len(signs)
        self.assertGreater(seen, 100)

    def test_67_examples(self):
        self.assertEqual(balance([ring_chain(4, 2)] * 2), (2, 2))
        self.assertEqual(balance([Chain(1, 1, [])]), (0, 0))
        self.assertEqual(balance([round_chain(12)] * 12), (math.factorial(12) // 2,) * 2)
        self.assertEqual(balance((label_chain([1, 2, 1, 2, 1], 2), boundary_chain(5, (0, 1, 4)))), (1, 1))
        self.assertIs(type(balance([ring_chain(4, 2)] * 2)), tuple)

    def test_67_signed_count_of_any_chains(self):
        one, two = Chain(3, 1, [((0,), 5), ((2,), -3)]), Chain(3, 2, [((0, 1), 2), ((1, 2), 10 ** 40)])
        self.assertEqual(signed_count([one, two]), 5 * 10 ** 40 - 3 * 2)
        self.assertEqual(signed_count([two, one]), 5 * 10 ** 40 - 3 * 2)
        for seed, sizes in enumerate(SHAPES):
            places = sum(sizes)
            for chains in all_signed(sizes, range(2)):
                some = [(at + 3) * chain + Chain(places, chain.degree, [(tuple(range(chain.degree)), seed - 7 * at)])
                        for at, chain in enumerate(chains)]
                product = some[0]
                for chain in some[1:]:
                    product = product * chain
                self.assertEqual(signed_count(some), product[tuple(range(places))])
                self.assertEqual(signed_count(tuple(some)), product[tuple(range(places))])

    def test_67_signed_count_by_order_signs(self):
        whole = Chain(4, 1, [((place,), place + 1) for place in range(4)])
        other = Chain(4, 3, [((0, 1, 2), 1), ((0, 1, 3), 1), ((0, 2, 3), 1), ((1, 2, 3), 1)])
        rows = [((place,), tuple(q for q in range(4) if q != place)) for place in range(4)]
        self.assertEqual(signed_count([whole, other]), sum((row[0][0] + 1) * sign(row[0] + row[1]) for row in rows))
        self.assertEqual(signed_count([other, whole]), sum((row[0][0] + 1) * sign(row[1] + row[0]) for row in rows))
        self.assertEqual(signed_count([whole] * 4), 0)
        chance = random.Random(67)
        for places in (4, 9, 12):
            for order in [chance.sample(range(places), places) for _ in range(20)]:
                self.assertEqual(signed_count([Chain.point(places, place) for place in order]), sign(order))

    def test_67_chains_of_degree_0(self):
        ring = ring_chain(4, 2)
        fill = Chain(4, 4, [((0, 1, 2, 3), -7)])
        self.assertEqual(signed_count([Chain(4, 0, [((), 6)]), fill]), -42)
        self.assertEqual(signed_count([fill, Chain(4, 0, [((), 10 ** 30)]), Chain(4, 0, [((), -2)])]), 14 * 10 ** 30)
        self.assertEqual(signed_count([Chain(4, 0, []), fill]), 0)
        self.assertEqual(signed_count([ring, Chain(4, 0, [((), 6)]), ring]), 0)

    def test_67_it_is_0_if_no_boundary_has_terms(self):
        for chains in all_signed((2, 2, 2), range(4)):
            self.assertEqual(signed_count([3 * chains[0], -5 * chains[1], chains[2] + chains[0]]), 0)

    def test_67_errors_of_signed_count_in_their_order(self):
        ring = ring_chain(4, 2)
        self.assertFails(Mismatch("none"), signed_count, [])
        self.assertFails(Mismatch("none"), signed_count, ())
        for chains in ([ring, ring_chain(5, 2)], [ring, ring, Chain(5, 1, [])], [Chain(3, 2, []), ring, ring]):
            self.assertFails(Mismatch("places"), signed_count, chains)
        for chains in ([ring], [ring, ring, ring], [ring, Chain(4, 0, [])], [Chain(4, 0, [((), 1)])], [ring, BEYOND]):
            self.assertFails(Mismatch("degree"), signed_count, chains)


class Lots(Case):
    def test_68_signs_of_lots(self):
        seen = 0
        for places, degree in ((4, 2), (6, 2), (8, 2), (8, 4)):
            for seed in range(4):
                chain = some_signed(seed, places, degree)
                lots = lots_of(chain.odd_book())
                signs = [sign_in([chain] * (places // degree), lot) for lot in lots]
                self.assertEqual([lot_sign(chain, lot) for lot in lots], signs)
                self.assertEqual([lot_sign(chain, list(lot)) for lot in lots], signs)
                self.assertEqual(lot_balance(chain), (signs.count(1), signs.count(-1)))
                self.assertEqual(signs.count(1), signs.count(-1))
                seen += len(lots)
        self.assertGreater(seen, 4)

    def test_68_examples(self):
        ring = ring_chain(4, 2)
        self.assertEqual((lot_sign(ring, ((0, 1), (2, 3))), lot_sign(ring, ((0, 3), (1, 2)))), (1, -1))
        self.assertEqual(lot_balance(ring), (1, 1))
        self.assertEqual(lot_balance(Chain(4, 2, [])), (0, 0))
        self.assertEqual(lot_balance(Chain(4, 4, [])), (0, 0))
        half = len(list_lots(ring_chain(12, 4).odd_book())) // 2
        self.assertEqual(lot_balance(ring_chain(12, 4)), (half, half))
        chain = signed_book(square_book())
        rows = partitions_of(lot_family(square_book()))
        self.assertEqual([partition_sign([chain, chain], row) for row in rows], [1, -1, -1, 1])

    def test_68_errors_in_their_order(self):
        for call in (lot_balance, lambda chain: lot_sign(chain, ()), lambda chain: lot_sign(chain, ((9, 9), (9, 9)))):
            for chain in (Chain(4, 1, [((0,), 1)]), Chain(4, 5, []), boundary_chain(6, (0, 1, 2, 3)), Chain(4, 1, []),
                          Chain(3, 10 ** 30 + 1, [])):
                self.assertFails(Mismatch("size"), call, chain)
            for chain in UNSIGNED:
                self.assertFails(NotSigned(0), call, chain)
            self.assertFails(BadBook("size", 0), call, Chain(4, 6, []))
            self.assertFails(BadBook("size", 0), call, Chain(3, 10 ** 30, []))
            self.assertFails(BadFamily("lots", 2), call, ring_chain(5, 2))
            self.assertFails(BadFamily("lots", 4), call, ring_chain(6, 4))

    def test_68_errors_for_the_odd_book(self):
        ring = ring_chain(4, 2)
        for lot, fault in (((), "count"), (((0, 2), (1, 3)), "room"), (((2, 3), (0, 1)), "order"),
                           (((0, 1), (1, 2)), "place")):
            self.assertFails(NotAPartition(fault), lot_sign, ring, lot)
        self.assertEqual(len(list_lots(circle_chain().odd_book(), most=6040)), 6040)
        self.assertFails(TooMany("lots", 5000), lot_balance, circle_chain())
        self.assertEqual(lot_sign(circle_chain(), tuple((at, at + 1) for at in range(0, 12, 2))), 1)
