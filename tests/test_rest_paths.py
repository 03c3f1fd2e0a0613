"""Points 98 to 102, as far as they are about paths, signs and fair rests."""

import itertools
import math
import random
from fractions import Fraction

from neveralone.balance import partition_sign
from neveralone.errors import BadTable, Mismatch, NotAPartition, Tied
from neveralone.rest_paths import fair_rest, rest_from_start, rest_mate, rest_sign
from neveralone.rests import is_rest, list_rests, rest_of_row, row_of_rest
from neveralone.tables import start_row, table_chains, table_family
from tests.support import Case, order_path, plain_determinant, sign_of_number
from tests.test_tables import BOTH_TIES, COLUMN_TIE, FIRST, ROW_TIE, SECOND, some_tables, untied_tables

RESTS = [((0, 1), (0, 1)), ((1, 0), (1, 0)), ((2, 1), (1, 2))]
UNIT = [[2 if row == column else 1 for column in range(4)] for row in range(4)]
# Calls with what is no rest and with a target outside, to tell which error is raised first.
CALLS = (lambda first, second: rest_from_start(first, second, -1), lambda first, second: rest_from_start(first, second),
         lambda first, second: rest_mate(first, second, ((), ()), 99), lambda first, second: rest_sign(first, second, ((), ())))


class Paths(Case):
    def test_98_the_mate_of_the_start_and_of_each_rest(self):
        for first, second in untied_tables(range(1)):
            family, start = table_family(first, second), start_row(first, second)
            rests = list_rests(first, second)
            for target in range(family.places):
                told = rest_from_start(first, second, target)
                self.assertEqual(told, rest_of_row(first, second, order_path(family, start, target)[-1]))
                self.assertIsNone(rest_mate(first, second, told, target))
                for rest in rests:
                    row = order_path(family, row_of_rest(first, second, rest), target)[-1]
                    other = None if row == start else rest_of_row(first, second, row)
                    self.assertEqual(rest_mate(first, second, rest, target), other)
                    self.assertEqual(other is None, rest == told)
                    self.assertNotEqual(other, rest)
                    if other is not None:
                        self.assertEqual(rest_mate(first, second, other, target), rest)

    def test_98_102_the_example_for_each_target(self):
        self.assertEqual([rest_from_start(FIRST, SECOND, target) for target in range(4)], [RESTS[1], RESTS[0]] * 2)
        self.assertEqual([[rest_mate(FIRST, SECOND, rest, target) for rest in RESTS] for target in range(4)],
                         [[RESTS[2], None, RESTS[0]], [None, RESTS[2], RESTS[1]]] * 2)

    def test_98_the_target_is_0_if_none_is_passed(self):
        self.assertEqual(rest_from_start(FIRST, SECOND), RESTS[1])
        self.assertEqual(rest_mate(FIRST, SECOND, RESTS[0]), RESTS[2])
        self.assertEqual(rest_mate(FIRST, SECOND, rest=RESTS[0], target=1), None)

    def test_98_rests_in_higher_terms_and_as_lists(self):
        for rest in ([[4, 2], [10 ** 30, 2 * 10 ** 30]], ((6, 3), (1, 2)), [(2, 1), [5, 10]]):
            self.assertEqual(rest_mate(FIRST, SECOND, rest, 1), RESTS[1])
            self.assertEqual(rest_mate(tuple(map(tuple, FIRST)), SECOND, rest, 0), RESTS[0])
            self.assertEqual(rest_sign(FIRST, SECOND, rest), -1)
        self.assertIsNone(rest_mate(FIRST, SECOND, ([7, 0], [2, 0]), 2))
        self.assertEqual(rest_sign(FIRST, SECOND, ([7, 0], [2, 0])), 1)

    def test_98_one_by_one_and_four_by_four(self):
        for target in (0, 1):
            self.assertEqual(rest_from_start([[5]], [[7]], target), ((1,), (1,)))
            self.assertIsNone(rest_mate([[5]], [[7]], ((3,), (4,)), target))
        for target in range(8):
            told = rest_from_start(UNIT, UNIT, target)
            self.assertIn(told, list_rests(UNIT, UNIT))
            self.assertIsNone(rest_mate(UNIT, UNIT, told, target))


class Signs(Case):
    def test_100_each_sign_as_it_is_defined_and_by_determinants(self):
        seen = set()
        for first, second in untied_tables():
            chains = table_chains(first, second)
            rests = list_rests(first, second)
            told = [rest_sign(first, second, rest) for rest in rests]
            self.assertEqual(sum(told), 1)
            for rest, turn in zip(rests, told):
                defined = -(-1) ** (len(first) + len(first[0])) * partition_sign(chains, row_of_rest(first, second, rest))
                self.assertEqual(turn, defined)
                rows, columns = [[at for at, number in enumerate(part) if number] for part in rest]
                parts = [plain_determinant([[table[row][column] for column in columns] for row in rows])
                         for table in (first, second)]
                self.assertEqual(turn, (-1) ** (len(rows) + 1) * sign_of_number(parts[0]) * sign_of_number(parts[1]))
                seen.add((len(first) + len(first[0])) % 2 * 2 + (turn == 1))
        self.assertEqual(seen, {0, 1, 2, 3})

    def test_100_102_the_example(self):
        self.assertEqual([rest_sign(FIRST, SECOND, rest) for rest in RESTS], [1, 1, -1])
        self.assertEqual(rest_sign([[5]], [[7]], ((1,), (1,))), 1)

    def test_100_many_rests(self):
        for rest in itertools.product((0, 1), repeat=4):
            if any(rest):
                self.assertEqual(rest_sign(UNIT, UNIT, (rest, rest)), (-1) ** (sum(rest) + 1))


class Faults(Case):
    def test_98_100_tables_first(self):
        for error, first, second in ((BadTable("rows", 0, 0), [], []), (BadTable("columns", 1, 0), [[1], []], [[1]]),
                                     (BadTable("shape", 1, 0), FIRST, [[1]]), (BadTable("shape", 1, 0), FIRST, [[1, 1], [1]]),
                                     (BadTable("entry", 1, 0), [[1, 1], [0, 1]], [[0, 0], [0, 0]])):
            for call in CALLS:
                self.assertFails(error, call, first, second)

    def test_98_100_ties_next(self):
        for tables, tight in ((ROW_TIE, (0, 2, 3)), (COLUMN_TIE, (0, 1, 2)), (BOTH_TIES, (0, 2, 3))):
            for call in CALLS:
                self.assertFails(Tied(tight), call, *tables)

    def test_98_100_what_is_no_rest_ahead_of_a_target_outside(self):
        for rest in (((1, 2), (1, 2)), ((0, 0), (0, 1)), ((1, 0), (0, 1)), ((2, 1), (1, 2, 0)), ((2,), (1, 2)),
                     ((-2, -1), (1, 2)), ((), ())):
            for target in (0, 3, -1, 4):
                self.assertFails(NotAPartition("rest"), rest_mate, FIRST, SECOND, rest, target)
            self.assertFails(NotAPartition("rest"), rest_mate, FIRST, SECOND, list(rest))
            self.assertFails(NotAPartition("rest"), rest_sign, FIRST, SECOND, rest)

    def test_98_targets_outside(self):
        for target in (-1, 4, 99, -10 ** 40):
            self.assertFails(Mismatch("target"), rest_from_start, FIRST, SECOND, target)
            self.assertFails(Mismatch("target"), rest_mate, FIRST, SECOND, RESTS[2], target)
        self.assertFails(Mismatch("target"), rest_from_start, [[5]], [[7]], 2)
        self.assertFails(Mismatch("target"), rest_from_start, [[5, 4, 3]], [[7, 6, 5]], target=4)

    def test_1_arguments_are_not_changed(self):
        first, second = [list(row) for row in FIRST], [list(row) for row in SECOND]
        rest = [[4, 2], [1, 2]]
        rest_mate(first, second, rest)
        rest_sign(first, second, rest)
        rest_from_start(first, second)
        fair_rest(first)
        self.assertEqual((first, second, rest), (FIRST, SECOND, [[4, 2], [1, 2]]))


def turned(table):
    most = max(map(max, table))
    return [[most + 1 - entry for entry in row] for row in table]


class Fair(Case):
    def test_101_the_only_rest_and_its_value(self):
        seen = set()
        for rows in range(1, 5):
            for columns in range(1, 5):
                for seed in range(4):
                    table = some_tables(seed, rows, columns)[0]
                    try:
                        table_family(table, turned(table))
                    except Tied as tie:
                        self.assertFails(tie, fair_rest, table)
                        continue
                    weights, others, value = fair_rest(table)
                    self.check_fair(table, weights, others, value)
                    seen.add(value[1] > 1)
        self.assertEqual(seen, {True, False})

    def check_fair(self, table, weights, others, value):
        self.assertTrue(is_rest(table, turned(table), weights, others))
        self.assertEqual([(weights, others)], list_rests(table, turned(table)))
        whole = sum(weights) * sum(others)
        told = sum(weights[i] * table[i][j] * others[j] for i in range(len(weights)) for j in range(len(others)))
        self.assertEqual(Fraction(*value), Fraction(told, whole))
        self.assertEqual(math.gcd(*value), 1)
        self.assertGreaterEqual(value[1], 1)
        # No row gains on the value against the columns, and no column against the rows.
        self.assertTrue(all(sum(row[j] * others[j] for j in range(len(row))) <= Fraction(*value) * sum(others) for row in table))
        self.assertTrue(all(sum(table[i][j] * weights[i] for i in range(len(table))) >= Fraction(*value) * sum(weights)
                            for j in range(len(table[0]))))

    def test_101_values_with_a_denominator_of_1_and_of_more(self):
        self.assertEqual(fair_rest([[3, 1], [1, 2]]), ((1, 2), (1, 2), (5, 3)))
        self.assertEqual(fair_rest(((3, 2), (4, 1))), ((1, 0), (0, 1), (2, 1)))
        self.assertEqual(fair_rest([[4, 1], [1, 4]]), ((1, 1), (1, 1), (5, 2)))
        self.assertEqual(fair_rest([[5, 1], [1, 5]]), ((1, 1), (1, 1), (3, 1)))
        self.assertEqual(fair_rest([[10 ** 40]]), ((1,), (1,), (10 ** 40, 1)))
        self.assertEqual(fair_rest([[2], [9], [4]]), ((0, 1, 0), (1,), (9, 1)))
        self.assertEqual(fair_rest([[2, 9, 4, 3]]), ((1,), (1, 0, 0, 0), (2, 1)))
        kinds = fair_rest([(3, 1), (1, 2)])
        self.assertEqual([type(part) for part in (kinds, *kinds)], [tuple] * 4)

    def test_101_ties(self):
        self.assertFails(Tied((0, 2, 3)), fair_rest, [[1, 1], [1, 1]])
        self.assertFails(Tied((2, 3, 4)), fair_rest, [[3, 1, 2], [1, 3, 2]])
        self.assertFails(Tied((0, 1, 2)), fair_rest, [[3, 1], [3, 1]])

    def test_101_tables_with_a_fault(self):
        for error, table in ((BadTable("rows", 0, 0), []), (BadTable("rows", 0, 0), [[1]] * 5), (BadTable("columns", 0, 0), [[]]),
                             (BadTable("columns", 0, 0), [[1] * 5]), (BadTable("columns", 1, 0), [[1, 2], [0]]),
                             (BadTable("entry", 0, 1), [[1, 0], [0, 1]]), (BadTable("entry", 1, 0), [[1, 1], [-5, 1]])):
            self.assertFails(error, fair_rest, table)
            self.assertFails(error, fair_rest, tuple(map(tuple, table)))

    def test_101_every_small_table(self):
        for entries in random.Random("fair").sample(list(itertools.product(range(1, 5), repeat=6)), 60):
            table = [list(entries[:3]), list(entries[3:])]
            try:
                told = fair_rest(table)
            except Tied:
                continue
            self.check_fair(table, *told)
