"""Points 48 (for these functions), 53 and 59."""

import itertools

from neveralone.books import Book
from neveralone.errors import Mismatch, NotAPartition, TooMany
from neveralone.families import Family
from neveralone.makers import all_rooms
from neveralone.matewebs import another_partition, mate_pieces, mate_table, rule_rings
from neveralone.paths import mate
from neveralone.rules import Rule
from tests.support import Case, Endless, all_families, ones, order_path, partitions_of, square_book, squares

SHAPES = ((2, 2), (1, 1, 1, 1), (1, 2, 3), (2, 2, 2), (3, 3))
EMPTY = Family([square_book(), Book(4, 2, [])])


def some_families():
    return [family for sizes in SHAPES for family in all_families(sizes, range(2))]


def rules_of(family, order):
    return [Rule(book, order) for book in family]


def ends_of(family, target, order):
    """For each partition the index of its mate, found by walking."""
    rows = partitions_of(family)
    return [rows.index(order_path(family, row, target, order)[-1]) for row in rows]


def linked(table):
    """The pieces of indexes that rows of a table lead through, grown until nothing changes."""
    groups = [{at, *row} for at, row in enumerate(table)]
    for at in range(len(table)):
        joined = [group for group in groups if at in group]
        groups = [group for group in groups if at not in group] + [set().union(*joined)]
    return sorted(sorted(group) for group in groups)


class Tables(Case):
    def test_59_the_mates_for_all_targets(self):
        for family in some_families():
            for order in Rule.ORDERS:
                columns = [ends_of(family, target, order) for target in range(family.places)]
                table = [[column[at] for column in columns] for at in range(len(partitions_of(family)))]
                self.assertEqual(mate_table(family, rules_of(family, order)), table)
                self.assertEqual(mate_pieces(family, tuple(rules_of(family, order))), linked(table))
            self.assertEqual(mate_table(family), mate_table(family, rules_of(family, "next")))
            self.assertEqual(mate_pieces(family), mate_pieces(family, rules_of(family, "next")))

    def test_59_the_example(self):
        self.assertEqual(mate_table(squares()), [[2, 1, 2, 1], [3, 0, 3, 0], [0, 3, 0, 3], [1, 2, 1, 2]])
        self.assertEqual(mate_pieces(squares()), [[0, 1, 2, 3]])

    def test_59_several_pieces(self):
        # Each of the two books has two squares that share no place.
        pair = Book(8, 4, [first + second for first in square_book() for second in [(4, 5), (4, 7), (5, 6), (6, 7)]])
        found = mate_pieces(Family([pair, pair]))
        self.assertEqual(sorted(itertools.chain(*found)), list(range(16)))
        self.assertEqual(found, linked(mate_table(Family([pair, pair]))))
        two = Family([Book(4, 1, [(0,), (1,)]), Book(4, 1, [(0,), (1,)]), Book(4, 1, [(2,), (3,)]),
                      Book(4, 1, [(2,), (3,)])])
        self.assertEqual(mate_table(two), [[2, 2, 1, 1], [3, 3, 0, 0], [0, 0, 3, 3], [1, 1, 2, 2]])
        self.assertEqual(mate_pieces(ones(4)), linked(mate_table(ones(4))))
        self.assertGreater(len(mate_pieces(ones(4))), 1)

    def test_59_families_without_partitions(self):
        self.assertEqual((mate_table(EMPTY), mate_pieces(EMPTY), rule_rings(EMPTY, 0, None, None)), ([], [], []))

    def test_48_the_first_of_two_errors(self):
        for call in (mate_table, mate_pieces):
            for rules in ([], [Rule(all_rooms(8, 1))] * 7, [Rule(square_book())] * 8):
                self.assertFails(Mismatch("rules"), call, ones(8), rules)
            self.assertFails(TooMany("partitions", 5000), call, ones(8))
            self.assertFails(TooMany("partitions", 5000), call, ones(8), [Endless(book) for book in ones(8)])
            self.assertFails(TooMany("exchanges", 20000), call, ones(4), [Endless(book) for book in ones(4)])

    def test_1_lists_are_new(self):
        table = mate_table(squares())
        table[0].clear()
        mate_pieces(squares())[0].clear()
        self.assertEqual([len(row) for row in mate_table(squares())], [4] * 4)


class Another(Case):
    def test_59_another_partition(self):
        for family in some_families():
            for row in partitions_of(family):
                self.assertEqual(another_partition(family, row), mate(family, row, 0))
                self.assertEqual(another_partition(family, list(row)), order_path(family, row, 0)[-1])

    def test_59_rows_that_are_no_partitions(self):
        for row, fault in (((), "count"), (((0, 2), (1, 3)), "room"), (((0, 1), (0, 1)), "place")):
            self.assertFails(NotAPartition(fault), another_partition, squares(), row)


class Rings(Case):
    def test_59_equal_and_different_rules(self):
        lengths = set()
        for family in some_families():
            for target in range(family.places):
                for first, second in itertools.product(Rule.ORDERS, repeat=2):
                    rings = rule_rings(family, target, rules_of(family, first), tuple(rules_of(family, second)))
                    self.check_rings(rings, ends_of(family, target, first), ends_of(family, target, second))
                    lengths |= {len(ring) for ring in rings}
                rings = rule_rings(family, target, None, None)
                ends = ends_of(family, target, "next")
                self.assertEqual(rings, [(at, other) for at, other in enumerate(ends) if at < other])
        self.assertGreater(max(lengths), 2)

    def check_rings(self, rings, mates, turned):
        """Together they have each index once; each begins with the least one left and takes turns."""
        left = list(range(len(mates)))
        for ring in rings:
            self.assertIs(type(ring), tuple)
            self.assertEqual(len(ring) % 2, 0)
            self.assertEqual(ring[0], left[0])
            for at, index in enumerate(ring):
                self.assertEqual(ring[(at + 1) % len(ring)], (turned if at % 2 else mates)[index])
                left.remove(index)
        self.assertEqual(left, [])

    def test_59_none_stands_for_the_rules_of_the_order_next(self):
        for family in some_families():
            for target in range(family.places):
                far = rules_of(family, "far")
                self.assertEqual(rule_rings(family, target, None, far),
                                 rule_rings(family, target, rules_of(family, "next"), far))
                self.assertEqual(rule_rings(family, target, far, None),
                                 rule_rings(family, target, far, rules_of(family, "next")))

    def test_48_the_first_of_two_errors(self):
        right = rules_of(ones(8), "far")
        for wrong in ([], right[1:], right + right[:1], [Rule(all_rooms(4, 1))] * 8):
            for target in (-1, 8, 10 ** 30):
                self.assertFails(Mismatch("target"), rule_rings, ones(8), target, wrong, right)
                self.assertFails(Mismatch("target"), rule_rings, ones(8), target, right, wrong)
            self.assertFails(Mismatch("rules"), rule_rings, ones(8), 0, wrong, right)
            self.assertFails(Mismatch("rules"), rule_rings, ones(8), 0, right, wrong)
            self.assertFails(Mismatch("rules"), rule_rings, ones(8), 0, None, wrong)
            self.assertFails(Mismatch("rules"), rule_rings, ones(8), 0, wrong, None)
        self.assertFails(TooMany("partitions", 5000), rule_rings, ones(8), 0, right, None)
        self.assertFails(TooMany("partitions", 5000), rule_rings, ones(8), 0, [Endless(book) for book in ones(8)], None)
        endless = [Endless(book) for book in ones(4)]
        self.assertFails(Mismatch("rules"), rule_rings, ones(4), 0, endless, [])
        self.assertFails(TooMany("exchanges", 20000), rule_rings, ones(4), 0, None, endless)
        self.assertFails(TooMany("exchanges", 20000), rule_rings, ones(4), 0, endless, None)
