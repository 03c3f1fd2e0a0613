"""Points 111 to 116."""

import itertools
import math
import random
from fractions import Fraction

from neveralone.bases import bases_book
from neveralone.errors import BadBounds, BadOrders, BadParties, Mismatch, NotARoom
from neveralone.families import Family
from neveralone.orders import unbeaten_book
from neveralone.partitions import list_partitions
from neveralone.shares import (base_family, base_path, base_sign, blocking_parties, check_parties, is_stable, party_matrix,
                               party_orders, share_family, share_path, share_start, stable_shares, unbeaten_bases)
from tests.support import Case, order_path, plain_determinant, sign_of_number
from tests.test_bases import column, plain_bases, plain_numbers, some_matrix
from tests.test_orders import PAIR, plain_full, plain_unbeaten, some_orders

BASE_CALLS = (base_family, unbeaten_bases, lambda orders, matrix: base_sign(orders, matrix, ()),
              lambda orders, matrix: base_path(orders, matrix, -1))
ALONE_CALLS = (party_matrix, share_start)
PARTY_CALLS = (check_parties, party_orders, share_family, lambda *given: share_path(*given, -1),
               lambda *given: stable_shares(*given, 99), lambda *given: blocking_parties(*given, (), 0),
               lambda *given: is_stable(*given, (), 0))
# Each of three persons likes the party with the next person more: an odd ring, in which all share halves.
RING = (3, [(0, 1), (1, 2), (0, 2)], [[2, 0], [0, 1], [1, 2]])


def some_pairs(seeds=range(2)):
    """Orders and matrices that go together."""
    return [(some_orders(seed, many, things), some_matrix(seed, many, things, most))
            for many in range(1, 5) for things in (1, 2, 4, 6) for seed, most in zip(seeds, (1, 5))]


def largest():
    return some_orders(5, 4, 8), some_matrix(5, 4, 8, 3)


def some_parties(seed, persons, parties, most=None):
    """Persons, parties and wishes."""
    chance = random.Random(f"parties {seed} {persons} {parties} {most}")
    chosen = [tuple(sorted(chance.sample(range(persons), chance.randint(1, min(persons, most or persons))))) for _ in range(parties)]
    return persons, chosen, some_wishes(chance, persons, chosen)


def some_wishes(chance, persons, parties):
    wishes = [[at for at, party in enumerate(parties) if person in party] for person in range(persons)]
    for listed in wishes:
        chance.shuffle(listed)
    return wishes


def all_parties(most=None, seeds=range(2)):
    return [some_parties(seed, persons, parties, most) for persons in range(1, 5) for parties in (1, 2, 3, 5, 8) for seed in seeds]


def as_tuples(persons, parties, wishes):
    return persons, tuple(parties), tuple(map(tuple, wishes))


def plain_blocking(persons, parties, wishes, shares):
    """The parties without a satisfied member, for a list of fractions."""
    return [at for at, party in enumerate(parties)
            if not any(sum(shares[other] for other in wishes[person] if wishes[person].index(other) >= wishes[person].index(at)) == 1
                       for person in party)]


def plain_stable(persons, parties, wishes, shares):
    return (min(shares) >= 0 and all(sum(shares[at] for at in listed) <= 1 for listed in wishes)
            and plain_blocking(persons, parties, wishes, shares) == [])


class Bases(Case):
    def test_111_the_family_and_its_partitions(self):
        for orders, matrix in some_pairs() + [largest()]:
            family = base_family(orders, matrix)
            self.assertEqual(family, Family([unbeaten_book(orders), bases_book(matrix)]))
            many, things = len(orders), len(orders[0])
            places = range(many + things)
            both = [room for room in plain_unbeaten(orders) if room in set(plain_bases(matrix))]
            rows = [(room, tuple(place for place in places if place not in room)) for room in both]
            start = (tuple(places[things:]), tuple(places[:things]))
            self.assertEqual(list_partitions(family), sorted(rows + [start]))
            self.assertEqual(unbeaten_bases(orders, matrix), both)
            self.assertEqual(unbeaten_bases(tuple(map(tuple, orders)), tuple(map(tuple, matrix))), both)
            self.assertEqual(len(both) % 2, 1)

    def test_111_one_thing_and_one_order(self):
        self.assertEqual(unbeaten_bases([[0]], [[5]]), [(0,)])
        self.assertEqual(base_sign([[0]], [[5]], (0,)), 1)
        for target in (0, 1):
            self.assertEqual(base_path([[0]], [[5]], target), [((1,), (0,)), ((0,), (0,)), ((0,), (1,))] if target else
                             [((1,), (0,)), ((1,), (1,)), ((0,), (1,))])

    def test_112_signs(self):
        seen = set()
        for orders, matrix in some_pairs(range(2)) + [largest()]:
            fulls = plain_full(orders)
            signs = []
            for room in unbeaten_bases(orders, matrix):
                row = [min(room, key=full.index) for full in fulls]
                square = [column(matrix, place) for place in row]
                signs.append(sign_of_number(plain_determinant(square)))
                self.assertEqual(base_sign(orders, matrix, room), signs[-1])
            self.assertEqual(sum(signs), 1)
            seen |= set(signs)
        for seed in range(40):
            orders, matrix = some_orders(seed, 3, 6), some_matrix(seed, 3, 6)
            signs = [base_sign(orders, matrix, room) for room in unbeaten_bases(orders, matrix)]
            self.assertEqual(sum(signs), 1)
            seen |= set(signs)
        self.assertEqual(seen, {1, -1})

    def test_112_rooms_that_are_unbeaten_but_no_base_and_bases_that_are_beaten(self):
        matrix = [[1, 1, 0], [0, 1, 1]]
        unbeaten, bases = set(plain_unbeaten(PAIR)), set(plain_bases(matrix))
        self.assertTrue(unbeaten - bases and bases - unbeaten and unbeaten & bases)
        for room in (unbeaten | bases) - (unbeaten & bases):
            self.assertFails(NotARoom(room), base_sign, PAIR, matrix, room)
            self.assertNotIn(room, unbeaten_bases(PAIR, matrix))
        room = min(unbeaten & bases)
        for other in ((), room[:1], room[::-1], room + (4,), (0, 9), (-1, 0), (3, 4)):
            self.assertFails(NotARoom(other), base_sign, PAIR, matrix, other)

    def test_112_paths_for_each_target(self):
        for orders, matrix in some_pairs() + [largest()]:
            family = base_family(orders, matrix)
            many, things = len(orders), len(orders[0])
            start = (tuple(range(things, things + many)), tuple(range(things)))
            for target in range(family.places):
                points = base_path(orders, matrix, target)
                self.assertEqual(points, order_path(family, start, target))
                self.assertEqual(points[0], start)
                self.assertEqual(base_sign(orders, matrix, points[-1][0]), 1)

    def test_112_targets_outside(self):
        for target in (-1, 5, 10 ** 40):
            self.assertFails(Mismatch("target"), base_path, PAIR, [[1, 1, 0], [0, 1, 1]], target)

    def test_111_sizes_that_do_not_go_together(self):
        for orders, matrix in (([[0, 1]], [[1, 1, 1]]), ([[0, 1], [1, 0]], [[1, 1]]), ([[0, 1, 2]], [[1, 1, 1], [1, 1, 1]]),
                               ([[0, 1], [1, 0]], [[1], [1]]), ([[0]], [[1] * 8] * 4)):
            for call in BASE_CALLS:
                self.assertFails(Mismatch("sizes"), call, orders, matrix)
                self.assertFails(Mismatch("sizes"), call, tuple(map(tuple, orders)), tuple(map(tuple, matrix)))

    def test_111_orders_ahead_of_the_matrix_ahead_of_the_sizes(self):
        for orders, error in (([], BadOrders("count", 0)), ([[0]] * 5, BadOrders("count", 5)), ([[]], BadOrders("things", 0)),
                              ([[0, 1], [0, 0]], BadOrders("order", 1))):
            for matrix in ([], [[-1]], [[1, 1]], [[0, 0], [0, 0]]):
                for call in BASE_CALLS:
                    self.assertFails(error, call, orders, matrix)
        for matrix, error in (([], BadBounds("rows", 0)), ([[]], BadBounds("columns", 0)), ([[1, 1], [1]], BadBounds("columns", 1)),
                              ([[1, -1]], BadBounds("entry", 0)), ([[1, 0, 1]], BadBounds("zero", 1))):
            for orders in ([[0]], [[0, 1], [1, 0]]):
                for call in BASE_CALLS:
                    self.assertFails(error, call, orders, matrix)


class Faults(Case):
    def assertBad(self, fault, at, persons, parties, wishes=()):
        for call in PARTY_CALLS:
            self.assertFails(BadParties(fault, at), call, persons, parties, wishes)
            self.assertFails(BadParties(fault, at), call, *as_tuples(persons, parties, wishes))
        for call in ALONE_CALLS:
            if fault != "wishes":
                self.assertFails(BadParties(fault, at), call, persons, parties)
                self.assertFails(BadParties(fault, at), call, persons, tuple(parties))

    def test_113_right_parties(self):
        for given in all_parties():
            self.assertEqual(check_parties(*given), (given[0], len(given[1])))
            self.assertEqual(check_parties(*as_tuples(*given)), (given[0], len(given[1])))
        self.assertIs(type(check_parties(*RING)), tuple)

    def test_113_persons(self):
        for persons in (0, 5, -1, 10 ** 40):
            self.assertBad("persons", persons, persons, [])
            self.assertBad("persons", persons, persons, [()] * 9, [[1]])

    def test_113_parties(self):
        self.assertBad("parties", 0, 1, [], [[]])
        self.assertBad("parties", 0, 1, [], [])
        self.assertBad("parties", 9, 1, [(0,)] * 9, [list(range(9))])
        self.assertBad("parties", 9, 1, [()] * 9)

    def test_113_a_faulty_party(self):
        for parties, at in (([()], 0), ([(0, 1), ()], 1), ([(1, 0)], 0), ([(0, 0)], 0), ([(0,), (0, 1), (1, 1)], 2), ([(0,), (3,)], 1),
                            ([(0,), (-1,)], 1), ([(0, 1, 2, 3)], 0), ([(0, 1, 2), (0, 2, 1), ()], 1), ([(-1, 0)], 0), ([(0, 10 ** 40)], 0),
                            ([(0,), (2, 1), (3,)], 1)):
            self.assertBad("party", at, 3, parties)
            self.assertBad("party", at, 3, parties, [[0], [0], [0], [0]])

    def test_113_faulty_wishes(self):
        persons, parties, _ = RING
        for wishes, at in (([[2, 0], [0, 1]], 2), ([[2, 0]], 1), ([], 0), ([[2, 0], [0, 1], [1, 2], []], 3),
                           ([[2, 0], [0, 1], [1, 2], [0], [1]], 3), ([[2], [0, 1], [1, 2]], 0), ([[2, 0], [0, 1, 1], [1, 2]], 1),
                           ([[2, 0], [0, 1], [1, 2, 0]], 2), ([[2, 0], [0, 0], [1, 2]], 1), ([[2, 0], [0, 1], [1, 3]], 2),
                           ([[2, 0], [0, -2], [1, 2]], 1), ([[2, 0], [], [1, 2]], 1), ([[0, 1], [2, 0]], 0), ([[2, 0], [0, 2]], 1),
                           ([[2, 0], [0, 1], [1], [0]], 2)):
            self.assertBad("wishes", at, persons, parties, wishes)
        self.assertBad("wishes", 1, 2, [(0,)], [[0], [0]])
        self.assertBad("wishes", 1, 2, [(0,)], [[0]])
        self.assertBad("wishes", 0, 1, [(0,), (0,)], [[0, 0]])

    def test_113_a_person_without_a_party_and_equal_parties(self):
        self.assertEqual(check_parties(2, [(0,)], [[0], []]), (2, 1))
        self.assertEqual(party_matrix(2, [(0,)]), [(1,), (0,)])
        self.assertEqual(party_orders(2, [(0,)], [[0], []]), [(0,), (0,)])
        self.assertEqual(stable_shares(2, [(0,)], [[0], []]), ((1,), 1))
        self.assertEqual(check_parties(2, [(0, 1), (0, 1)], [[1, 0], [0, 1]]), (2, 2))
        for target in range(4):
            self.assertTrue(is_stable(2, [(0, 1), (0, 1)], [[1, 0], [0, 1]],
                                      *stable_shares(2, [(0, 1), (0, 1)], [[1, 0], [0, 1]], target)))

    def test_112_targets_outside_behind_the_parties(self):
        for target in (-1, 6, 10 ** 40):
            self.assertFails(Mismatch("target"), share_path, *RING, target)
            self.assertFails(Mismatch("target"), stable_shares, *RING, target)
            self.assertFails(Mismatch("target"), stable_shares, *RING, target=target)


class Parties(Case):
    def test_115_orders_and_matrix(self):
        for persons, parties, wishes in all_parties():
            orders = [tuple(listed + [at for at, party in enumerate(parties) if person not in party])
                      for person, listed in enumerate(wishes)]
            matrix = [tuple(int(person in party) for party in parties) for person in range(persons)]
            self.assertEqual(party_orders(persons, parties, wishes), orders)
            self.assertEqual(party_orders(*as_tuples(persons, parties, wishes)), orders)
            self.assertEqual(party_matrix(persons, parties), matrix)
            self.assertEqual(party_matrix(persons, tuple(parties)), matrix)
            self.assertEqual(share_family(persons, parties, wishes), base_family(orders, matrix))
        self.assertEqual(party_orders(*RING), [(2, 0, 1), (0, 1, 2), (1, 2, 0)])
        self.assertEqual(party_matrix(*RING[:2]), [(1, 0, 1), (1, 1, 0), (0, 1, 1)])
        self.assertEqual([type(order) for order in party_orders(*RING) + party_matrix(*RING[:2])], [tuple] * 6)

    def test_111_115_starts_and_paths(self):
        for persons, parties, wishes in all_parties(seeds=range(1)):
            start = share_start(persons, parties)
            self.assertEqual(start, (tuple(range(len(parties), len(parties) + persons)), tuple(range(len(parties)))))
            orders, matrix = party_orders(persons, parties, wishes), party_matrix(persons, parties)
            for target in range(0, len(parties) + persons, 4):
                self.assertEqual(share_path(persons, parties, wishes, target), base_path(orders, matrix, target))
                self.assertEqual(share_path(persons, parties, wishes, target)[0], start)

    def test_115_stable_shares_for_each_target(self):
        for given in all_parties() + all_parties(most=2, seeds=range(1)):
            persons, parties, wishes = given
            for target in range(0, persons + len(parties), 3):
                numerators, denominator = stable_shares(*given, target)
                room = share_path(*given, target)[-1][0]
                told = {place: number[0] for place, number in zip(room, plain_numbers(party_matrix(persons, parties), room))}
                shares = [told.get(at, 0) for at in range(len(parties))]
                self.assertEqual([Fraction(number, denominator) for number in numerators], shares)
                self.assertEqual((type(numerators), math.gcd(denominator, *numerators), denominator >= 1), (tuple, 1, True))
                self.assertTrue(plain_stable(*given, shares))
                self.assertIs(is_stable(*given, numerators, denominator), True)
                self.assertEqual(blocking_parties(*given, numerators, denominator), [])
            self.assertEqual(stable_shares(*given), stable_shares(*given, target=0))

    def test_115_the_target_is_0_if_none_is_passed(self):
        given = (3, [(1, 2), (0, 1), (0, 1, 2), (0, 2)], [[2, 1, 3], [1, 0, 2], [0, 3, 2]])
        self.assertEqual(stable_shares(*given), ((0, 0, 1, 0), 1))
        self.assertEqual([stable_shares(*given, target)[0].index(1) for target in range(7)], [2, 3, 2, 3, 3, 2, 2])

    def test_115_each_unbeaten_base_gives_stable_shares(self):
        for given in all_parties(seeds=range(1)):
            persons, parties, wishes = given
            matrix = party_matrix(persons, parties)
            for room in unbeaten_bases(party_orders(*given), matrix):
                told = {place: number[0] for place, number in zip(room, plain_numbers(matrix, room))}
                self.assertTrue(plain_stable(*given, [told.get(at, Fraction(0)) for at in range(len(parties))]))

    def test_116_two_members_with_an_odd_ring(self):
        for target in range(6):
            self.assertEqual(stable_shares(*RING, target), ((1, 1, 1), 2))
        self.assertEqual(blocking_parties(*RING, (1, 0, 0), 1), [1])
        for numerators in itertools.product((0, 1), repeat=3):
            self.assertFalse(is_stable(*RING, numerators, 1))

    def test_116_denominators_with_parties_of_two_members(self):
        seen = set()
        for seed in range(30):
            given = some_parties(seed, 4, 8, most=2)
            for target in (0, 5, 11):
                seen.add(stable_shares(*given, target)[1])
        seen |= {stable_shares(*RING)[1]}
        self.assertEqual(seen, {1, 2})

    def test_116_denominators_with_two_sides(self):
        pairs = [(0, 2), (0, 3), (1, 2), (1, 3)]
        for seed in range(15):
            chance = random.Random(f"sides {seed}")
            parties = pairs + [(0,), (3,), (0, 2), (1,)]
            given = (4, parties, some_wishes(chance, 4, parties))
            for target in (0, 6, 8, 11):
                self.assertEqual(stable_shares(*given, target)[1], 1)

    def test_115_denominators_of_more_than_2(self):
        # Each pair of three of the four persons: 1 / 3 for each party is the only way to give each person 1.
        parties = [(0, 1, 2), (0, 1, 3), (0, 2, 3), (1, 2, 3)]
        seen = set()
        for seed in range(40):
            given = (4, parties, some_wishes(random.Random(f"three {seed}"), 4, parties))
            for target in (0, 4, 7):
                numerators, denominator = stable_shares(*given, target)
                self.assertTrue(is_stable(*given, numerators, denominator))
                seen.add(denominator)
        self.assertIn(3, seen)


class Stable(Case):
    def test_114_every_share_in_thirds(self):
        seen = set()
        for given in (RING, (2, [(0,), (0, 1), (1,)], [[0, 1], [1, 2]]), (2, [(0, 1), (0, 1), (1,)], [[1, 0], [2, 0, 1]]),
                      (3, [(0, 1, 2), (0, 1), (2,)], [[1, 0], [0, 1], [2, 0]])):
            for numerators in itertools.product(range(-1, 4), repeat=3):
                shares = [Fraction(number, 3) for number in numerators]
                for told in (numerators, list(numerators)):
                    self.assertEqual(blocking_parties(*given, told, 3), plain_blocking(*given, shares))
                    stable = is_stable(*as_tuples(*given), told, 3)
                    self.assertIs(stable, plain_stable(*given, shares))
                    seen.add((stable, min(numerators) < 0, plain_blocking(*given, shares) == []))
        self.assertTrue({(True, False, True), (False, False, True), (False, False, False), (False, True, False)} <= seen)

    def test_114_shares_that_are_not_in_lowest_terms(self):
        for factor in (1, 2, 7, 10 ** 40):
            self.assertEqual(blocking_parties(*RING, [factor] * 3, 2 * factor), [])
            self.assertIs(is_stable(*RING, [factor] * 3, 2 * factor), True)
            self.assertIs(is_stable(*RING, [factor, factor, factor + 1], 2 * factor), False)

    def test_114_sums_above_1_and_negative_numbers_although_no_party_is_blocking(self):
        single = (1, [(0,), (0,)], [[0, 1]])
        self.assertEqual(blocking_parties(*single, (1, 1), 1), [0])
        self.assertEqual(blocking_parties(*single, (0, 1), 1), [])
        self.assertIs(is_stable(*single, (0, 1), 1), True)
        two = (2, [(0,), (0, 1), (1,)], [[1, 0], [1, 2]])
        self.assertEqual(blocking_parties(*two, (1, 0, 1), 1), [])
        self.assertEqual(is_stable(*two, (1, 0, 1), 1), True)
        pair = (2, [(0, 1), (0,), (1,)], [[1, 0], [0, 2]])
        self.assertEqual(blocking_parties(*pair, (1, 0, 1), 1), [])
        self.assertIs(is_stable(*pair, (1, 0, 1), 1), False)
        self.assertEqual(blocking_parties(*pair, (1, 0, 0), 1), [2])
        both = (2, [(0, 1), (0, 1)], [[0, 1], [1, 0]])
        self.assertEqual(blocking_parties(*both, (-1, 2), 1), [])
        self.assertIs(is_stable(*both, (-1, 2), 1), False)
        self.assertEqual(blocking_parties(*both, (0, 1), 1), [])
        self.assertIs(is_stable(*both, (0, 1), 1), True)

    def test_114_too_few_and_too_many_numerators_and_denominators_below_1(self):
        for call in (blocking_parties, is_stable):
            for numerators, denominator in (((1, 1), 2), ((1, 1, 1, 1), 2), ((), 1), ((1, 1, 1), 0), ((1, 1, 1), -2), ((1, 1), 0),
                                            ((-1, -1, -1), -10 ** 40)):
                self.assertFails(Mismatch("shares"), call, *RING, numerators, denominator)
                self.assertFails(Mismatch("shares"), call, *RING, list(numerators), denominator)

    def test_1_nothing_is_changed_and_lists_are_new(self):
        persons, parties, wishes = RING[0], list(RING[1]), [list(listed) for listed in RING[2]]
        party_orders(persons, parties, wishes).clear()
        party_matrix(persons, parties).clear()
        share_path(persons, parties, wishes, 0).clear()
        blocking_parties(persons, parties, wishes, [0, 0, 0], 1).clear()
        unbeaten_bases(party_orders(persons, parties, wishes), party_matrix(persons, parties)).clear()
        self.assertEqual((persons, parties, wishes), RING)
        self.assertEqual(stable_shares(persons, parties, wishes), ((1, 1, 1), 2))
