"""Points 94, 96 and 97."""

import random

from neveralone.bounds import Bounds
from neveralone.corners import corner_book, corner_chain
from neveralone.errors import BadTable, Tied
from neveralone.families import Family
from neveralone.partitions import count_partitions, partition_fault
from neveralone.rests import is_rest, list_rests, rest_of_row, rests_by_supports, row_of_rest
from neveralone.signs import is_signed
from neveralone.tables import check_tables, column_bounds, row_bounds, start_row, table_chains, table_family
from tests.support import Case

FIRST, SECOND = [[3, 1], [1, 2]], [[2, 1], [1, 3]]
# A tie in the row bounds alone, in the column bounds alone, and in both: equal columns, or equal rows.
ROW_TIE = ([[3, 1], [1, 2]], [[2, 2], [1, 1]])
COLUMN_TIE = ([[3, 1], [3, 1]], [[2, 1], [1, 3]])
BOTH_TIES = ([[1, 1], [1, 1]], [[1, 1], [1, 1]])
CALLS = (check_tables, row_bounds, column_bounds, table_family, table_chains, start_row, list_rests, rests_by_supports,
         lambda first, second: is_rest(first, second, (), ()), lambda first, second: rest_of_row(first, second, ()),
         lambda first, second: row_of_rest(first, second, ((), ())))


def some_tables(seed, rows, columns, most=30):
    chance = random.Random(f"{seed} {rows} {columns}")
    return [[[chance.randint(1, most) for _ in range(columns)] for _ in range(rows)] for _ in range(2)]


def all_shapes():
    return [(rows, columns) for rows in range(1, 5) for columns in range(1, 5)]


def untied_tables(seeds=range(3)):
    """Tables of all shapes without a tie."""
    found = []
    for rows, columns in all_shapes():
        for seed in seeds:
            tables = some_tables(seed, rows, columns)
            try:
                table_family(*tables)
            except Tied:
                continue
            found.append(tables)
    return found


class Faults(Case):
    def assertBad(self, fault, row, column, first, second):
        for call in CALLS:
            self.assertFails(BadTable(fault, row, column), call, first, second)
            self.assertFails(BadTable(fault, row, column), call, tuple(map(tuple, first)), tuple(map(tuple, second)))

    def test_94_right_tables(self):
        for rows, columns in all_shapes():
            first, second = some_tables(1, rows, columns)
            self.assertEqual(check_tables(first, second), (rows, columns))
            self.assertEqual(check_tables(tuple(map(tuple, first)), second), (rows, columns))
        self.assertEqual(check_tables([[1]], [[10 ** 40]]), (1, 1))
        self.assertIs(type(check_tables(FIRST, SECOND)), tuple)

    def test_94_rows(self):
        self.assertBad("rows", 0, 0, [], [])
        self.assertBad("rows", 0, 0, [], [[0]])
        self.assertBad("rows", 0, 0, [[1]] * 5, [[1]] * 5)
        self.assertBad("rows", 0, 0, [[]] * 5, [[0]])

    def test_94_columns(self):
        for first, row in (([[]], 0), ([[1] * 5], 0), ([[0] * 5, [1]], 0), ([[1], []], 1), ([[0], [1, 1]], 1),
                           ([[1, 1], [1, 1], [0]], 2), ([[1] * 4, [1] * 4, [1] * 4, [1] * 5], 3), ([[], [1]], 0),
                           ([[1, 2], [1, 2, 3], [1]], 1)):
            self.assertBad("columns", row, 0, first, first)
            self.assertBad("columns", row, 0, first, [[0]] * 7)

    def test_94_shape(self):
        for many in (0, 1, 3, 5):
            self.assertBad("shape", many, 0, FIRST, [[1]] * many)
            self.assertBad("shape", many, 0, [[0, 1], [1, 1]], [[1, 2]] * many)
        for second, row in (([[1], [1, 1]], 0), ([[1, 1], [1]], 1), ([[1, 1], [0] * 3], 1), ([[], []], 0),
                            ([[0, 0], []], 1)):
            self.assertBad("shape", row, 0, FIRST, second)
            self.assertBad("shape", row, 0, [[0, 1], [1, 1]], second)

    def test_94_entry(self):
        for wrong in (0, -1, -10 ** 40):
            for row in (0, 1):
                for column in (0, 1):
                    table = [list(entries) for entries in FIRST]
                    table[row][column] = wrong
                    self.assertBad("entry", row, column, table, SECOND)
                    self.assertBad("entry", row, column, SECOND, table)
                    self.assertBad("entry", row, column, table, [[0, 0], [0, 0]])
        self.assertBad("entry", 0, 1, [[1, 0], [0, 0]], [[0, 0], [0, 0]])
        self.assertBad("entry", 1, 0, [[1, 1], [0, 0]], [[0, 0], [0, 0]])

    def test_94_ahead_of_ties(self):
        first, second = BOTH_TIES
        self.assertBad("entry", 1, 1, first, [[1, 1], [1, 0]])


class BothBounds(Case):
    def test_96_row_and_column_bounds(self):
        for first, second in untied_tables():
            rows, columns = len(first), len(first[0])
            told = [(tuple(-int(k == at) for k in range(rows)), 0) for at in range(rows)]
            told += [(tuple(entries[column] for entries in second), 1) for column in range(columns)]
            bounds = row_bounds(first, second)
            self.assertIsInstance(bounds, Bounds)
            self.assertEqual((bounds.unknowns, bounds.bound_rows), (rows, tuple(told)))
            told = [(tuple(entries), 1) for entries in first]
            told += [(tuple(-int(k == at) for k in range(columns)), 0) for at in range(columns)]
            bounds = column_bounds(tuple(first), tuple(second))
            self.assertEqual((bounds.unknowns, bounds.bound_rows), (columns, tuple(told)))

    def test_96_the_example(self):
        self.assertEqual(row_bounds(FIRST, SECOND).bound_rows, (((-1, 0), 0), ((0, -1), 0), ((2, 1), 1), ((1, 3), 1)))
        self.assertEqual(column_bounds(FIRST, SECOND).bound_rows, (((3, 1), 1), ((1, 2), 1), ((-1, 0), 0), ((0, -1), 0)))

    def test_96_ties_in_the_row_bounds(self):
        self.assertFails(Tied((0, 2, 3)), row_bounds, *ROW_TIE)
        self.assertEqual(column_bounds(*ROW_TIE).corner_rooms(), column_bounds(FIRST, SECOND).corner_rooms())
        for call in (table_family, table_chains):
            self.assertFails(Tied((0, 2, 3)), call, *ROW_TIE)

    def test_96_ties_in_the_column_bounds(self):
        self.assertEqual(row_bounds(*COLUMN_TIE).corner_rooms(), row_bounds(FIRST, SECOND).corner_rooms())
        self.assertFails(Tied((0, 1, 2)), column_bounds, *COLUMN_TIE)
        for call in (table_family, table_chains):
            self.assertFails(Tied((0, 1, 2)), call, *COLUMN_TIE)

    def test_96_ties_in_both_bounds(self):
        first, second = [[3, 1], [3, 1]], [[2, 2], [1, 1]]
        self.assertFails(Tied((0, 2, 3)), row_bounds, first, second)
        self.assertFails(Tied((0, 1, 2)), column_bounds, first, second)
        for call in (table_family, table_chains):
            self.assertFails(Tied((0, 2, 3)), call, first, second)
            self.assertFails(Tied((0, 2, 3)), call, *BOTH_TIES)


class Families(Case):
    def test_97_families_and_chains(self):
        for first, second in untied_tables():
            bounds = [row_bounds(first, second), column_bounds(first, second)]
            family = table_family(first, second)
            self.assertEqual(family, Family([corner_book(side) for side in bounds]))
            self.assertEqual((family.places, family[0].size), (len(first) + len(first[0]), len(first)))
            chains = table_chains(first, second)
            self.assertEqual(chains, [corner_chain(side) for side in bounds])
            self.assertTrue(all(is_signed(chain) for chain in chains))
            self.assertEqual(partition_fault(family, start_row(first, second)), "")

    def test_97_one_by_one_and_four_by_four(self):
        family = table_family([[5]], [[7]])
        self.assertEqual((family.places, [book.rooms for book in family]), (2, [((0,), (1,)), ((0,), (1,))]))
        self.assertEqual(count_partitions(family), 2)
        unit = [[2 if row == column else 1 for column in range(4)] for row in range(4)]
        self.assertEqual(count_partitions(table_family(unit, unit)), 16)

    def test_97_the_start_also_with_a_tie(self):
        for rows, columns in all_shapes():
            tables = some_tables(0, rows, columns, most=1)
            self.assertEqual(start_row(*tables), (tuple(range(rows)), tuple(range(rows, rows + columns))))
        for tables in (ROW_TIE, COLUMN_TIE, BOTH_TIES, (FIRST, SECOND)):
            self.assertEqual(start_row(*tables), ((0, 1), (2, 3)))

    def test_1_tables_are_not_changed(self):
        first, second = [list(row) for row in FIRST], [list(row) for row in SECOND]
        bounds = row_bounds(first, second)
        table_chains(first, second).clear()
        self.assertEqual((first, second), (FIRST, SECOND))
        second[0][0] = 99
        self.assertEqual(bounds.bound_rows, row_bounds(FIRST, SECOND).bound_rows)
