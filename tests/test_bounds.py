"""Points 84 to 87."""

import itertools
import math
import random
from fractions import Fraction

from neveralone.bounds import Bounds
from neveralone.errors import BadBounds, Tied, Unbounded
from tests.support import Case

EXAMPLE = [((-1, 0), 0), ((0, -1), 0), ((1, 2), 4), ((2, 1), 4)]
HUGE = 10 ** 40


def value(coefficients, point):
    return sum(first * second for first, second in zip(coefficients, point))


def box(lows, highs):
    """The rows of a box: for each unknown one row from above and one from below."""
    rows = []
    for at, (low, high) in enumerate(zip(lows, highs)):
        unit = tuple(int(k == at) for k in range(len(lows)))
        rows.extend([(unit, high), (tuple(-number for number in unit), -low)])
    return rows


def plain_solution(rows):
    """The only point at which all rows are tight, as fractions, or None."""
    grid = [[Fraction(number) for number in coefficients] + [Fraction(right)] for coefficients, right in rows]
    for at in range(len(grid)):
        found = [row for row in grid[at:] if row[at] != 0]
        if not found:
            return None
        grid.remove(found[0])
        grid.insert(at, [number / found[0][at] for number in found[0]])
        for k in [k for k in range(len(grid)) if k != at]:
            grid[k] = [mine - grid[k][at] * top for mine, top in zip(grid[k], grid[at])]
    return tuple(row[-1] for row in grid)


def plain_corners(unknowns, rows):
    """A dict from each corner, as fractions, to the tuple of all tight rows."""
    corners = {}
    for chosen in itertools.combinations(range(len(rows)), unknowns):
        point = plain_solution([rows[at] for at in chosen])
        if point is not None and all(value(row, point) <= right for row, right in rows):
            corners[point] = tuple(at for at, (row, right) in enumerate(rows) if value(row, point) == right)
    return corners


def some_rows(seed):
    """The unknowns and the rows of bounds; many of them are unbounded, tied or empty."""
    chance = random.Random(seed)
    unknowns = chance.randint(1, 4)
    rows = []
    while len(rows) <= unknowns or chance.random() < 0.7:
        coefficients = tuple(chance.randint(-2, 2) for _ in range(unknowns))
        if any(coefficients) and len(rows) < 12:
            rows.append((coefficients, chance.randint(-2, 6)))
    return unknowns, rows


class Faults(Case):
    def test_85_numbers_of_unknowns(self):
        for unknowns in (0, 5, -1, HUGE):
            self.assertFails(BadBounds("unknowns", unknowns), Bounds, unknowns, [])
            self.assertFails(BadBounds("unknowns", unknowns), Bounds, unknowns, [((0,), 1)] * 13)
        self.assertEqual((Bounds.MOST_UNKNOWNS, Bounds.MOST_ROWS), (4, 12))
        self.assertEqual(Bounds(1, box([0], [1])).unknowns, 1)
        self.assertEqual(Bounds(4, box([0] * 4, [1] * 4)).unknowns, 4)

    def test_85_numbers_of_rows(self):
        for unknowns, many in ((1, 0), (1, 1), (2, 2), (4, 4), (4, 3), (1, 13), (4, 13), (2, 40)):
            self.assertFails(BadBounds("rows", many), Bounds, unknowns, [((0,) * 9, 1)] * many)
        triangle = [((-1, 0), 0), ((0, -1), 0), ((1, 1), 4)]
        self.assertEqual(len(Bounds(2, triangle)), 3)
        self.assertEqual(len(Bounds(2, triangle + [((1, 1), 5 + k) for k in range(9)])), 12)
        self.assertFails(BadBounds("rows", 13), Bounds, 2, triangle + [((1, 1), 5 + k) for k in range(10)])
        self.assertEqual(len(Bounds(1, box([0], [1]))), 2)

    def test_85_the_first_fault_of_the_first_faulty_row(self):
        for row, fault in (((1,), "count"), ((1, 2, 3), "count"), ((), "count"), ((0,), "count"), ((0, 0, 0), "count"),
                           ((0, 0), "zero")):
            for at in range(4):
                rows = EXAMPLE[:at] + [(row, 5)] + EXAMPLE[at:]
                self.assertFails(BadBounds(fault, at), Bounds, 2, rows)
                self.assertFails(BadBounds(fault, at), Bounds, 2, tuple((list(row), right) for row, right in rows))
                self.assertFails(BadBounds(fault, at), Bounds, 2, rows + [((0, 0), 1), ((1,), 1)])

    def test_84_85_faults_come_before_free_directions_and_ties(self):
        self.assertFails(BadBounds("zero", 2), Bounds, 2, [((1, 0), 0), ((1, 0), 0), ((0, 0), 0)])
        self.assertFails(BadBounds("rows", 1), Bounds, 1, [((1,), 0)])


class Unboundeds(Case):
    def check_direction(self, unknowns, rows):
        with self.assertRaises(Unbounded) as caught:
            Bounds(unknowns, rows)
        direction = caught.exception.direction
        self.assertEqual((type(direction), len(direction)), (tuple, unknowns))
        self.assertEqual(math.gcd(*direction), 1)
        self.assertTrue(all(value(row, direction) <= 0 for row, _ in rows), (rows, direction))

    def test_86_free_directions(self):
        for unknowns, rows in ((1, [((1,), 0), ((2,), 1)]), (1, [((-3,), 0), ((-2,), 1)]), (2, [((1, 0), 0)] * 3),
                               (2, EXAMPLE[:3:2] + EXAMPLE[3:]), (2, [((1, 1), 0), ((-1, -1), 5), ((2, 2), 7)]),
                               (2, [((0, 1), 1), ((0, -1), 1), ((1, 0), 5)]),
                               (3, [((1, 0, 0), 1), ((-1, 0, 0), 1), ((0, 1, 1), 1), ((0, -1, -1), 1)]),
                               (4, [((1, 2, 3, 4), 9), ((-1, -2, -3, -4), 9)] * 3), (4, box([0] * 4, [1] * 4)[1:]),
                               (3, [((1, 1, 1), 1)] * 4), (3, [((2, 4, 6), HUGE), ((-6, -4, -2), -HUGE), ((0, 1, 2), 1),
                                                              ((5, 3, 1), 1)])):
            self.check_direction(unknowns, rows)

    def test_86_the_only_direction_in_lowest_terms(self):
        for rows, direction in (([((4, -6), 1), ((-4, 6), 1), ((-1, 0), 1)], (3, 2)),
                                ([((0, HUGE), 1), ((0, -1), 1), ((1, 1), 1)], (-1, 0)),
                                ([((1, 0), 1), ((-1, 0), 1), ((5, -7), 0)], (0, 1))):
            self.assertFails(Unbounded(direction), Bounds, 2, rows)
        self.assertFails(Unbounded((-1,)), Bounds, 1, [((5,), 1), ((1,), 1), ((7,), 1)])

    def test_86_even_if_every_point_breaks_a_row(self):
        self.assertFails(Unbounded((0, -1)), Bounds, 2, [((1, 0), -5), ((-1, 0), -5), ((0, 1), 0)])
        self.check_direction(2, [((1, 1), -5), ((-1, -1), -5), ((2, 2), 0)])
        self.check_direction(4, [((1, 0, 0, 0), -1), ((-1, 0, 0, 0), -1), ((0, 1, 0, 0), 0), ((0, -1, 0, 0), -1),
                                 ((0, 0, 1, 0), 0)])

    def test_86_free_directions_come_before_ties(self):
        self.check_direction(2, [((1, 0), 0), ((0, 1), 0), ((1, 1), 0)])


class Ties(Case):
    def test_87_a_tie_at_one_corner(self):
        self.assertFails(Tied((0, 1, 2)), Bounds, 1, [((1,), 0), ((2,), 0), ((-1,), 0)])
        self.assertFails(Tied((2, 3, 4)), Bounds, 2, EXAMPLE + [((3, 3), 8)])
        self.assertFails(Tied((0, 2, 4)), Bounds, 2, EXAMPLE + [((-1, 3), 6)])
        self.assertFails(Tied((0, 1, 4, 5)), Bounds, 2, EXAMPLE + [((-1, -1), 0), ((-2, -1), 0)])

    def test_87_the_least_tuple_of_several_corners(self):
        twice = [((-1, 0), 0), ((0, -1), 0), ((1, 0), 1), ((0, 1), 1), ((1, 0), 1)]
        self.assertFails(Tied((1, 2, 4)), Bounds, 2, twice)
        self.assertFails(Tied((0, 1, 4)), Bounds, 2, twice[:4] + [((-2, 0), 0)])
        self.assertFails(Tied((0, 1, 3)), Bounds, 2, [((1, 0), 1), ((0, 1), 1), ((-1, 0), 0), ((0, 2), 2), ((0, -1), 0)])
        pyramid = [((0, 0, -1), 0), ((1, 0, 1), 1), ((-1, 0, 1), 1), ((0, 1, 1), 1), ((0, -1, 1), 1)]
        self.assertFails(Tied((1, 2, 3, 4)), Bounds, 3, pyramid)
        self.assertFails(Tied((0, 1, 3, 5)), Bounds, 3, pyramid + [((1, 1, 0), 2)])

    def test_87_a_single_point(self):
        self.assertFails(Tied((0, 1, 2)), Bounds, 2, [((1, 0), 0), ((0, 1), 0), ((-1, -1), 0)])
        self.assertFails(Tied((0, 1)), Bounds, 1, [((3,), 2), ((-3,), -2)])


class Corners(Case):
    def test_87_corner_rooms_against_plain_counting(self):
        kinds = {}
        for seed in range(400):
            unknowns, rows = some_rows(seed)
            corners = plain_corners(unknowns, rows)
            tied = sorted(tight for tight in corners.values() if len(tight) > unknowns)
            try:
                bounds = Bounds(unknowns, rows)
            except Unbounded as error:
                self.assertTrue(all(value(row, error.direction) <= 0 for row, _ in rows) and any(error.direction))
                kind = "unbounded"
            except Tied as error:
                self.assertEqual(error.tight, tied[0])
                kind = "tied"
            else:
                self.assertEqual(tied, [])
                self.assertEqual(bounds.corner_rooms(), sorted(corners.values()))
                self.assertIs(bounds.is_empty, not corners)
                kind = "corners" if corners else "empty"
            if kind != "unbounded":
                self.assertFalse(any(all(value(row, way) <= 0 for row, _ in rows) for way in
                                     itertools.product((-1, 0, 1), repeat=unknowns) if any(way)))
            kinds[kind] = kinds.get(kind, 0) + 1
        self.assertTrue(len(kinds) == 4 and min(kinds.values()) > 20, kinds)

    def test_87_examples(self):
        self.assertEqual(Bounds(2, EXAMPLE).corner_rooms(), [(0, 1), (0, 2), (1, 3), (2, 3)])
        self.assertEqual(Bounds(1, [((2,), 7), ((-3,), 1)]).corner_rooms(), [(0,), (1,)])
        self.assertEqual(Bounds(4, box([0] * 4, [1, 2, 3, HUGE])).corner_rooms(),
                         sorted(itertools.product((0, 1), (2, 3), (4, 5), (6, 7))))

    def test_87_empty_bounds_are_accepted(self):
        for unknowns, rows in ((1, [((1,), 0), ((-1,), -1)]), (2, EXAMPLE + [((-1, -1), -9)]),
                               (4, box([1] * 4, [0] * 4)), (1, [((1,), -HUGE), ((-1,), HUGE - 1)])):
            bounds = Bounds(unknowns, rows)
            self.assertIs(bounds.is_empty, True)
            self.assertEqual(bounds.corner_rooms(), [])
        self.assertIs(Bounds(2, EXAMPLE).is_empty, False)

    def test_87_rows_that_are_never_tight(self):
        rows = EXAMPLE + [((1, 1), 100), ((-1, 0), 1)]
        self.assertEqual(Bounds(2, rows).corner_rooms(), Bounds(2, EXAMPLE).corner_rooms())
        self.assertFails(Tied((1, 3, 4)), Bounds, 2, EXAMPLE + [((1, 0), 2)])

    def test_84_coefficients_of_any_size(self):
        rows = [(tuple(HUGE * number for number in row), HUGE * right) for row, right in EXAMPLE]
        self.assertEqual(Bounds(2, rows).corner_rooms(), Bounds(2, EXAMPLE).corner_rooms())
        self.assertFails(Tied((0, 1, 4)), Bounds, 2, rows + [((-1, -HUGE), 0)])
        self.assertEqual(Bounds(1, [((HUGE,), 1), ((-HUGE,), 1)]).corner_rooms(), [(0,), (1,)])
        self.assertFails(Tied((0, 1)), Bounds, 1, [((HUGE,), HUGE ** 2), ((-1,), -HUGE)])


class Points(Case):
    def test_84_points_and_tight_rows(self):
        bounds = Bounds(2, EXAMPLE)
        for numerators, denominator, tight in (((0, 0), 1, (0, 1)), ((0, 2), 1, (0, 2)), ((4, 4), 3, (2, 3)),
                                               ((8, 8), 6, (2, 3)), ((1, 1), 1, ()), ((4, 4), 2, None), ((1, 0), 1, (1,)),
                                               ((-1, 0), 9, None), ((3, 5), 3, None), ((4, 0), 2, (1, 3)),
                                               ((1, 1), HUGE, ()), ((-1, 1), HUGE, None), ((5, 2), 3, (3,)), ((3, 2), 3, ())):
            for given in (numerators, list(numerators)):
                self.assertEqual(bounds.tight_rows(given, denominator), tight)
                self.assertEqual(bounds.tight_rows(numerators=given, denominator=denominator), tight)
                self.assertIs((given, denominator) in bounds, tight is not None)
                if denominator == 1:
                    self.assertEqual(bounds.tight_rows(given), tight)

    def test_84_points_of_empty_bounds_break_a_row(self):
        bounds = Bounds(1, [((1,), 0), ((-1,), -1)])
        for number in range(-3, 4):
            self.assertNotIn(((number,), 2), bounds)
            self.assertIsNone(bounds.tight_rows((number,), 2))

    def test_84_against_fractions(self):
        for seed in range(60):
            unknowns, rows = some_rows(seed)
            try:
                bounds = Bounds(unknowns, rows)
            except (Unbounded, Tied):
                continue
            for numerators in itertools.product((-3, 0, 1, 4), repeat=unknowns):
                for denominator in (1, 2, 3):
                    point = [Fraction(number, denominator) for number in numerators]
                    inside = all(value(row, point) <= right for row, right in rows)
                    tight = tuple(at for at, (row, right) in enumerate(rows) if value(row, point) == right)
                    self.assertIs((numerators, denominator) in bounds, inside)
                    self.assertEqual(bounds.tight_rows(numerators, denominator), tight if inside else None)


class Objects(Case):
    def test_84_fields_and_rows_in_order(self):
        bounds = Bounds(2, [[list(row), right] for row, right in EXAMPLE])
        self.assertEqual((bounds.unknowns, bounds.bound_rows, len(bounds)), (2, tuple(EXAMPLE), 4))
        self.assertEqual(list(bounds), EXAMPLE)
        self.assertTrue(all(type(row) is tuple and type(row[0]) is tuple for row in bounds))
        self.assertIs(type(bounds.bound_rows), tuple)

    def test_1_lists_that_are_changed_later(self):
        rows = [[list(row), right] for row, right in EXAMPLE]
        bounds = Bounds(2, rows)
        rows[0][0][0] = 99
        rows[1][1] = 99
        rows.pop()
        self.assertEqual(bounds.bound_rows, tuple(EXAMPLE))
        bounds.corner_rooms().clear()
        self.assertEqual(len(bounds.corner_rooms()), 4)
        self.assertEqual(rows, [[[99, 0], 0], [[0, -1], 99], [[1, 2], 4]])
