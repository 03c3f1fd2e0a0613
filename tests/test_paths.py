"""Points 14, 48 (for these functions) and 52 to 55."""

import itertools

from neveralone.books import Book, face_table
from neveralone.errors import Mismatch, NotAPartition, TooMany
from neveralone.families import Family
from neveralone.makers import all_rooms
from neveralone.paths import MOST_EXCHANGES, exchanges, mate, mate_pairs, walk_path
from neveralone.points import near_fault
from neveralone.rules import Rule, TableRule
from tests.support import (Case, Endless, all_families, ones, order_path, partitions_of, plain_path, square_book,
                           squares, steps_between)

SHAPES = ((2, 2), (1, 1, 1, 1), (1, 2, 3), (3, 3), (2, 2, 2), (1, 1, 2, 2))
FIRST = ((0, 1), (2, 3))
PATH = [((0, 1), (2, 3)), ((1, 2), (2, 3)), ((1, 2), (0, 3))]
OUTSIDE = (-1, 4, 10 ** 30)


def whole_walk(family, row, target, rules=None, **named):
    return list(walk_path(family, row, target, rules, **named))


ROW_CALLS = (whole_walk, mate, exchanges)


def far_rules(family):
    return [Rule(book, "far") for book in family]


def turned_rule(book):
    """A rule that pairs the rooms at a face as no order does: the first two, and the others from the outside in."""
    triples = []
    for face, rooms in face_table(book).items():
        left = rooms[1:]
        triples.append((face, rooms[0], left.pop(len(left) // 2)))
        while left:
            triples.append((face, left.pop(0), left.pop()))
    return TableRule(book, triples)


class Walks(Case):
    def test_52_the_example(self):
        self.assertEqual(whole_walk(squares(), FIRST, 0), PATH)
        self.assertEqual(mate(squares(), FIRST, 0), PATH[-1])
        self.assertEqual(exchanges(squares(), FIRST, 0), [(0, 0, 2), (1, 2, 0)])

    def test_52_54_each_order_of_rules(self):
        seen = 0
        for sizes in SHAPES:
            for family in all_families(sizes, range(2)):
                for row in partitions_of(family):
                    for target in range(family.places):
                        for order in Rule.ORDERS:
                            points = order_path(family, row, target, order)
                            rules = [Rule(book, order) for book in family]
                            self.check_path(family, points, target, rules)
                            self.check_path(family, points, target, tuple(rules))
                            seen += len(points)
                        self.check_path(family, order_path(family, row, target), target, None)
        self.assertGreater(seen, 1000)

    def check_path(self, family, points, target, rules):
        self.assertEqual(whole_walk(family, points[0], target, rules), points)
        self.assertEqual(whole_walk(family, list(points[0]), target, rules), points)
        self.assertEqual(mate(family, list(points[0]), target, rules), points[-1])
        self.assertEqual(exchanges(family, points[0], target, rules), steps_between(points))
        self.assertNotEqual(points[0], points[-1])
        self.assertEqual(mate(family, points[-1], target, rules), points[0])
        self.assertEqual(whole_walk(family, points[-1], target, rules), points[::-1])

    def test_52_points_between_are_near_partitions(self):
        for family in all_families((2, 2, 2), range(3)):
            for row in partitions_of(family):
                for point in whole_walk(family, row, 3)[1:-1]:
                    self.assertEqual(near_fault(family, point, 3), "")

    def test_52_a_rule_of_its_own_for_each_book(self):
        for family in all_families((1, 2, 3), range(3)) + [ones(4)]:
            rules = [turned_rule(book) if at % 2 == 0 else Rule(book, "ends") for at, book in enumerate(family)]
            for row in partitions_of(family):
                for target in range(family.places):
                    points = plain_path(family, row, target, lambda at, face, room: rules[at](face, room))
                    self.check_path(family, points, target, rules)

    def test_54_kinds_of_values(self):
        for call in ROW_CALLS[:2]:
            self.assertIsInstance(call(squares(), list(FIRST), 0)[0], tuple)
        for step in exchanges(squares(), FIRST, 2):
            self.assertIs(type(step), tuple)
        self.assertEqual(MOST_EXCHANGES, 20000)
        with self.assertRaises(TypeError):
            mate(squares(), FIRST, 0, None, 5)


class Rules(Case):
    def test_53_rules_that_do_not_fit(self):
        rule, other = Rule(square_book()), Rule(Book(4, 2, [(0, 1), (0, 2), (1, 2)]))
        for rules in ([], [rule], [rule] * 3, [rule, other], [other, rule], [Rule(Book(5, 2, [])), rule],
                      [rule, Rule(Book(4, 1, []))]):
            for given in (rules, tuple(rules)):
                for call in ROW_CALLS:
                    self.assertFails(Mismatch("rules"), call, squares(), FIRST, 0, given)
                self.assertFails(Mismatch("rules"), mate_pairs, squares(), 0, given)
        self.assertEqual(mate(squares(), FIRST, 0, [rule, Rule(square_book(), "ends")]), PATH[-1])

    def test_53_rules_of_equal_books_fit(self):
        mixed = Family([square_book(), Book(4, 1, [(0,), (1,), (2,), (3,)]), all_rooms(4, 1)])
        rules = [Rule(Book(4, 2, [(2, 3), (1, 2), (0, 1), (3, 0)])), Rule(all_rooms(4, 1)), Rule(all_rooms(4, 1))]
        row = ((0, 1), (2,), (3,))
        self.assertEqual(mate(mixed, row, 0, rules), mate(mixed, row, 0))
        self.assertFails(Mismatch("rules"), mate, mixed, row, 0, rules[::-1])


class Bounds(Case):
    def test_54_most_equal_to_the_number_of_exchanges_and_one_less(self):
        for family in all_families((2, 2, 2), range(3)) + [ones(4)]:
            for row in partitions_of(family)[:12]:
                points = order_path(family, row, 1)
                many = len(points) - 1
                for call in ROW_CALLS:
                    call(family, row, 1, most=many)
                    for most in (many - 1, 0):
                        self.assertFails(TooMany("exchanges", most), call, family, row, 1, most=most)

    def test_54_points_that_are_yielded_ahead_of_the_error(self):
        for family in all_families((2, 2, 2), range(3)):
            for row in partitions_of(family)[:6]:
                points = order_path(family, row, 1)
                for most in range(len(points) - 1):
                    seen = []
                    with self.assertRaises(TooMany) as caught:
                        for point in walk_path(family, row, 1, most=most):
                            seen.append(point)
                    self.assertEqual(seen, points[:most + 1])
                    self.assertEqual(vars(caught.exception), {"what": "exchanges", "bound": most})

    def test_48_the_bound_without_most(self):
        rules = [Endless(book) for book in ones(4)]
        row = ((0,), (1,), (2,), (3,))
        for call in ROW_CALLS:
            self.assertFails(TooMany("exchanges", 20000), call, ones(4), row, 0, rules)
            self.assertFails(TooMany("exchanges", 7), call, ones(4), row, 0, rules, most=7)
        self.assertFails(TooMany("exchanges", 20000), mate_pairs, ones(4), 0, rules)
        walk = walk_path(ones(4), row, 0, rules)
        self.assertEqual(len(list(itertools.islice(walk, 20001))), 20001)
        self.assertFails(TooMany("exchanges", 20000), next, walk)

    def test_54_errors_come_when_the_iteration_begins(self):
        for given, error in (((FIRST, 4), Mismatch("target")), ((FIRST, 0, []), Mismatch("rules")),
                             ((((0, 1),), 0), NotAPartition("count"))):
            walk = walk_path(squares(), *given)
            self.assertFails(error, next, walk)
        walk = walk_path(squares(), FIRST, 0, most=0)
        self.assertEqual(next(walk), FIRST)
        self.assertFails(TooMany("exchanges", 0), next, walk)


class Order(Case):
    def test_48_the_first_of_two_errors(self):
        wrong = [Rule(square_book())]
        for call in ROW_CALLS:
            for target in OUTSIDE:
                self.assertFails(Mismatch("target"), call, squares(), FIRST, target, wrong)
                self.assertFails(Mismatch("target"), call, squares(), (), target)
            for row in ((), ((0, 2), (1, 3)), ((0, 1), (0, 1))):
                self.assertFails(Mismatch("rules"), call, squares(), row, 0, wrong)
            self.assertFails(NotAPartition("count"), call, squares(), (), 0, most=0)
            self.assertFails(NotAPartition("room"), call, squares(), ((0, 2), (1, 3)), 0, far_rules(squares()), most=0)
            self.assertFails(NotAPartition("room"), call, squares(), ((0, 1), (3, 2)), 0)
            self.assertFails(NotAPartition("place"), call, squares(), ((0, 1), (0, 1)), 0)

    def test_48_the_first_of_two_errors_of_mate_pairs(self):
        for target in OUTSIDE:
            self.assertFails(Mismatch("target"), mate_pairs, squares(), target, [])
        self.assertFails(Mismatch("target"), mate_pairs, ones(8), 8)
        self.assertFails(Mismatch("rules"), mate_pairs, ones(8), 0, [])
        self.assertFails(TooMany("partitions", 5000), mate_pairs, ones(8), 0, [Endless(book) for book in ones(8)])
        self.assertFails(TooMany("partitions", 5000), mate_pairs, ones(8), 0)


class Pairs(Case):
    def test_55_each_partition_in_exactly_one_pair(self):
        for sizes in SHAPES:
            for family in all_families(sizes, range(2)):
                for target in range(family.places):
                    for order in Rule.ORDERS:
                        rules = [Rule(book, order) for book in family]
                        ends = {row: order_path(family, row, target, order)[-1] for row in partitions_of(family)}
                        pairs = sorted((row, other) for row, other in ends.items() if row < other)
                        self.assertEqual(mate_pairs(family, target, rules), pairs)
                        self.assertEqual(sorted(itertools.chain(*pairs)), partitions_of(family))
                    self.assertEqual(mate_pairs(family, target), mate_pairs(family, target,
                                                                            [Rule(book) for book in family]))

    def test_55_the_example(self):
        pairs = mate_pairs(squares(), 0)
        self.assertEqual(pairs, [(FIRST, ((1, 2), (0, 3))), (((0, 3), (1, 2)), ((2, 3), (0, 1)))])
        self.assertTrue(all(type(pair) is tuple for pair in pairs))

    def test_55_families_without_partitions(self):
        for family in (Family([Book(1, 1, [])]), Family([square_book(), Book(4, 2, [])])):
            for target in range(family.places):
                self.assertEqual(mate_pairs(family, target), [])
            self.assertFails(Mismatch("target"), mate_pairs, family, family.places)
            self.assertFails(NotAPartition("count"), mate, family, (), 0)


class Copies(Case):
    def test_1_a_walk_reads_its_arguments_when_it_begins(self):
        rules, row, family = far_rules(squares()), list(FIRST), squares()
        walk = walk_path(family, row, 0, rules)
        rules[:] = [Rule(square_book())] * 2
        self.assertEqual(next(walk), FIRST)
        rules.clear()
        row.clear()
        family.books, family.places = (), 0
        self.assertEqual(list(walk), PATH[1:])

    def test_1_arguments_are_not_changed(self):
        rules, row = far_rules(squares()), list(FIRST)
        for call in ROW_CALLS:
            call(squares(), row, 0, rules)
        self.assertEqual((row, len(rules)), (list(FIRST), 2))
        exchanges(squares(), row, 0).clear()
        self.assertEqual(len(exchanges(squares(), row, 0)), 2)
