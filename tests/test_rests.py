"""Points 95, 98, 99 and the example of 102."""

import itertools
import math

from neveralone.corners import corner_point
from neveralone.errors import NotAPartition, Tied
from neveralone.partitions import list_partitions
from neveralone.rests import is_rest, list_rests, rest_of_row, rests_by_supports, row_of_rest
from neveralone.tables import column_bounds, row_bounds, start_row, table_family
from tests.support import Case
from tests.test_tables import BOTH_TIES, COLUMN_TIE, FIRST, ROW_TIE, SECOND, some_tables, untied_tables

RESTS = [((0, 1), (0, 1)), ((1, 0), (1, 0)), ((2, 1), (1, 2))]


def plain_is_rest(first, second, weights, others):
    """A pair of right lengths, tried against each row and each column."""
    if min(weights) < 0 or min(others) < 0 or not any(weights) or not any(others):
        return False
    rows = [sum(entry * other for entry, other in zip(entries, others)) for entries in first]
    columns = [sum(entry * weight for entry, weight in zip(entries, weights)) for entries in zip(*second)]
    return (all(weight == 0 or told == max(rows) for weight, told in zip(weights, rows))
            and all(other == 0 or told == max(columns) for other, told in zip(others, columns)))


def some_pairs(rows, columns):
    return itertools.product(itertools.product((-1, 0, 1, 2), repeat=rows), itertools.product((-1, 0, 1, 2), repeat=columns))


class IsRest(Case):
    def test_95_102_the_example(self):
        for weights, others in RESTS:
            for factor, turn in ((1, 1), (3, 1), (1, 7), (10 ** 30, 2)):
                pair = ([factor * weight for weight in weights], tuple(turn * other for other in others))
                self.assertIs(is_rest(FIRST, SECOND, *pair), True)
        self.assertIs(is_rest(FIRST, SECOND, (1, 2), (1, 2)), False)
        self.assertIs(is_rest(FIRST, SECOND, (1, 0), (0, 1)), False)

    def test_95_every_small_pair(self):
        seen = set()
        for tables in [(FIRST, SECOND), ROW_TIE, COLUMN_TIE, BOTH_TIES] + [some_tables(seed, rows, columns, most=3) for
                                                                         seed in range(3) for rows, columns in
                                                                         ((1, 1), (2, 2), (1, 3), (3, 2))]:
            for weights, others in some_pairs(len(tables[0]), len(tables[0][0])):
                told = is_rest(*tables, weights, others)
                self.assertIs(told, plain_is_rest(*tables, weights, others))
                seen.add(told)
        self.assertEqual(seen, {True, False})

    def test_95_weights_of_all_zeros_and_negative_ones(self):
        for weights, others in (((0, 0), (0, 1)), ((0, 1), (0, 0)), ((0, 0), (0, 0)), ((-1, 0), (1, 0)), ((0, 1), (0, -1)),
                                ((-2, -1), (-1, -2)), ((0, 1), (-1, 1)), ((-1, 1), (0, 1))):
            self.assertIs(is_rest(FIRST, SECOND, weights, others), False)

    def test_95_one_too_few_and_one_too_many(self):
        for weights, others in (((1,), (1, 0)), ((1, 0, 0), (1, 0)), ((1, 0), (1,)), ((1, 0), (1, 0, 0)), ((), (1, 0)),
                                ((1, 0), ()), ((), ()), ((2, 1, 5), (1, 2))):
            self.assertIs(is_rest(FIRST, SECOND, weights, others), False)
            self.assertIs(is_rest(FIRST, SECOND, list(weights), list(others)), False)


class Rows(Case):
    def test_98_each_rest_comes_from_one_partition(self):
        for first, second in untied_tables():
            family, start = table_family(first, second), start_row(first, second)
            rows = [row for row in list_partitions(family) if row != start]
            rests = [rest_of_row(first, second, row) for row in rows]
            self.assertEqual(len(set(rests)), len(rests))
            self.assertEqual(len(rests) % 2, 1)
            self.assertEqual(list_rests(first, second), sorted(rests))
            for row, rest in zip(rows, rests):
                self.check_rest(first, second, row, rest)

    def check_rest(self, first, second, row, rest):
        self.assertEqual(rest_of_row(tuple(first), tuple(second), list(row)), rest)
        self.assertTrue(plain_is_rest(first, second, *rest))
        self.assertEqual([type(part) for part in (rest, *rest)], [tuple] * 3)
        self.assertEqual([math.gcd(*part) for part in rest], [1, 1])
        for side, room, part in zip((row_bounds, column_bounds), row, rest):
            numerators, _ = corner_point(side(first, second), room)
            self.assertEqual(tuple(number // math.gcd(*numerators) for number in numerators), part)
        weights, others = rest
        for factor, turn in ((1, 1), (4, 1), (3, 10 ** 30)):
            pair = [[factor * weight for weight in weights], tuple(turn * other for other in others)]
            self.assertEqual(row_of_rest(first, second, pair), row)
            self.assertEqual(row_of_rest(first, second, tuple(pair)), row)
        self.assertEqual(row, self.plain_row(first, second, weights, others))

    def plain_row(self, first, second, weights, others):
        """The rows and columns of weight 0, and those that are best answers."""
        rows = [sum(entry * other for entry, other in zip(entries, others)) for entries in first]
        columns = [sum(entry * weight for entry, weight in zip(entries, weights)) for entries in zip(*second)]
        many = len(rows)
        return (tuple([at for at in range(many) if weights[at] == 0]
                      + [many + at for at in range(len(columns)) if columns[at] == max(columns)]),
                tuple([at for at in range(many) if rows[at] == max(rows)]
                      + [many + at for at in range(len(columns)) if others[at] == 0]))

    def test_98_102_the_example(self):
        self.assertEqual(list_rests(FIRST, SECOND), RESTS)
        self.assertEqual(start_row(FIRST, SECOND), ((0, 1), (2, 3)))
        self.assertEqual(row_of_rest(FIRST, SECOND, RESTS[2]), ((2, 3), (0, 1)))
        self.assertEqual(rest_of_row(FIRST, SECOND, ((2, 3), (0, 1))), RESTS[2])
        self.assertEqual(row_of_rest(FIRST, SECOND, ([4, 2], [3, 6])), ((2, 3), (0, 1)))

    def test_98_errors_of_rest_of_row_in_their_order(self):
        start = ((0, 1), (2, 3))
        for tables, tight in ((ROW_TIE, (0, 2, 3)), (COLUMN_TIE, (0, 1, 2)), (BOTH_TIES, (0, 2, 3))):
            for row in (start, (), ((9,), (9,))):
                self.assertFails(Tied(tight), rest_of_row, *tables, row)
        for row, fault in (((), "count"), (start + ((),), "count"), (((1, 0), (2, 3)), "room"), (((0, 4), (1, 2)), "room"),
                           (((2, 3), (2, 3)), "place")):
            self.assertFails(NotAPartition(fault), rest_of_row, FIRST, SECOND, row)
            self.assertFails(NotAPartition(fault), rest_of_row, FIRST, SECOND, list(row))
        self.assertFails(NotAPartition("start"), rest_of_row, FIRST, SECOND, start)
        self.assertFails(NotAPartition("start"), rest_of_row, FIRST, SECOND, list(start))
        self.assertFails(NotAPartition("start"), rest_of_row, [[5]], [[7]], ((0,), (1,)))
        self.assertEqual(rest_of_row([[5]], [[7]], ((1,), (0,))), ((1,), (1,)))

    def test_98_errors_of_row_of_rest_in_their_order(self):
        for tables, tight in ((ROW_TIE, (0, 2, 3)), (COLUMN_TIE, (0, 1, 2)), (BOTH_TIES, (0, 2, 3))):
            for rest in (((0, 0), (0, 0)), ((1, 0), (1, 0)), ((), ())):
                self.assertFails(Tied(tight), row_of_rest, *tables, rest)
        for rest in (((1, 2), (1, 2)), ((0, 0), (0, 0)), ((1, 0), (0, 1)), ((2, 1), (1, 2, 0)), ((2,), (1, 2)),
                     ((-2, -1), (1, 2)), ((), ())):
            self.assertFails(NotAPartition("rest"), row_of_rest, FIRST, SECOND, rest)
            self.assertFails(NotAPartition("rest"), row_of_rest, FIRST, SECOND, list(rest))


class Lists(Case):
    def test_99_the_same_list_without_corners(self):
        lengths = set()
        for first, second in untied_tables(range(6)):
            rests = list_rests(first, second)
            self.assertEqual(rests_by_supports(first, second), rests)
            self.assertEqual(rests_by_supports(tuple(first), tuple(map(tuple, second))), rests)
            lengths.add(len(rests))
            for weights, others in rests:
                self.assertEqual(sum(map(bool, weights)), sum(map(bool, others)))
        self.assertTrue({1, 3} <= lengths)

    def test_99_many_rests(self):
        unit = [[2 if row == column else 1 for column in range(4)] for row in range(4)]
        rests = sorted((row, row) for row in itertools.product((0, 1), repeat=4) if any(row))
        self.assertEqual(list_rests(unit, unit), rests)
        self.assertEqual(rests_by_supports(unit, unit), rests)
        self.assertEqual(list_rests([[5]], [[7]]), [((1,), (1,))])
        self.assertEqual(rests_by_supports([[5]], [[7]]), [((1,), (1,))])

    def test_98_99_rests_ascend_although_their_partitions_do_not(self):
        for first, second, rests in (([[8, 4, 3], [7, 5, 6]], [[3, 4, 2], [5, 2, 6]],
                                      [((0, 1), (0, 0, 1)), ((1, 1), (3, 0, 1)), ((3, 1), (1, 1, 0))]),
                                     ([[3, 5], [1, 7], [4, 3]], [[5, 6], [6, 3], [9, 5]],
                                      [((0, 0, 1), (1, 0)), ((3, 1, 0), (1, 1)), ((4, 0, 1), (2, 1))])):
            rows = [row for row in list_partitions(table_family(first, second)) if row != start_row(first, second)]
            self.assertNotEqual([rest_of_row(first, second, row) for row in rows], rests)
            self.assertEqual(list_rests(first, second), rests)
            self.assertEqual(rests_by_supports(first, second), rests)

    def test_99_no_other_small_pair_is_a_rest(self):
        for first, second in untied_tables(range(1)):
            if len(first) * len(first[0]) <= 6:
                rests = list_rests(first, second)
                for weights, others in some_pairs(len(first), len(first[0])):
                    if is_rest(first, second, weights, others):
                        lowest = [tuple(number // math.gcd(*part) for number in part) for part in (weights, others)]
                        self.assertIn(tuple(lowest), rests)

    def test_98_ties_in_list_rests(self):
        for tables, tight in ((ROW_TIE, (0, 2, 3)), (COLUMN_TIE, (0, 1, 2)), (BOTH_TIES, (0, 2, 3))):
            self.assertFails(Tied(tight), list_rests, *tables)

    def test_1_lists_are_new(self):
        list_rests(FIRST, SECOND).clear()
        rests_by_supports(FIRST, SECOND).clear()
        self.assertEqual((list_rests(FIRST, SECOND), rests_by_supports(FIRST, SECOND)), (RESTS, RESTS))
