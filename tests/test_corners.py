"""Points 16 (for corners), 88 to 92 and the example of 93."""

import functools
import itertools
import math
import random
from fractions import Fraction

from neveralone.books import Book
from neveralone.bounds import Bounds
from neveralone.chains import Chain
from neveralone.corners import (climb, content, contradiction, corner_book, corner_chain, corner_point, edge_direction,
                                goal_factors, other_end)
from neveralone.errors import Mismatch, NotARoom, Tied, Unbounded
from neveralone.exact import determinant
from neveralone.signs import is_signed
from tests.support import Case
from tests.test_bounds import EXAMPLE, box, plain_corners, some_rows, value

HUGE = 10 ** 40


def example():
    return Bounds(2, EXAMPLE)


def round_rows(seed, unknowns, many):
    """Rows all around the point 0, which breaks none of them."""
    chance = random.Random(f"{seed} {unknowns} {many}")
    rows = box([-chance.randint(20, 40) for _ in range(unknowns)], [chance.randint(20, 40) for _ in range(unknowns)])
    while len(rows) < many:
        coefficients = tuple(chance.randint(-9, 9) for _ in range(unknowns))
        if any(coefficients):
            rows.append((coefficients, chance.randint(50, 150)))
    return rows


def made(unknowns, rows):
    """The bounds, or None if they are unbounded or tied."""
    try:
        return Bounds(unknowns, rows)
    except (Unbounded, Tied):
        return None


def some_bounds():
    found = [made(*some_rows(seed)) for seed in range(250)]
    found += [made(unknowns, round_rows(seed, unknowns, many)) for seed in range(3)
              for unknowns, many in ((1, 2), (2, 6), (2, 12), (3, 8), (4, 10))]
    return [bounds for bounds in found if bounds is not None and not bounds.is_empty]


BOUNDS = some_bounds()


@functools.lru_cache(maxsize=None)
def points_by_room(unknowns, rows):
    return {tight: point for point, tight in plain_corners(unknowns, rows).items()}


def point_of(bounds, room):
    """The corner as fractions, found without the program."""
    return points_by_room(bounds.unknowns, bounds.bound_rows)[room]


def fractions_of(pair):
    return tuple(Fraction(number, pair[1]) for number in pair[0])


class Books(Case):
    def test_88_corner_books_and_chains(self):
        self.assertGreater(len(BOUNDS), 40)
        for bounds in BOUNDS:
            book, chain = corner_book(bounds), corner_chain(bounds)
            self.assertEqual(book, Book(len(bounds), bounds.unknowns, bounds.corner_rooms()))
            self.assertTrue(book.is_two_each)
            signs = []
            for room in bounds.corner_rooms():
                whole = determinant([bounds.bound_rows[at][0] for at in room])
                signs.append((room, 1 if whole > 0 else -1))
            self.assertEqual(chain, Chain(len(bounds), bounds.unknowns, signs))
            self.assertTrue(is_signed(chain))
            self.assertEqual(chain.odd_book(), book)

    def test_88_empty_bounds(self):
        bounds = Bounds(2, EXAMPLE + [((-1, -1), -9)])
        self.assertEqual(corner_book(bounds), Book(5, 2, []))
        self.assertEqual(corner_chain(bounds), Chain(5, 2, []))


class Rooms(Case):
    def test_89_rooms_that_are_no_corner_rooms(self):
        for room in ((1, 2), (0, 3), (1, 0), (2, 0), (3, 2), (), (0,), (0, 1, 2), (0, 0), (9, 10), (-1, 0)):
            self.assertFails(NotARoom(room), corner_point, example(), room)
            for leaving in (0, 9, -1):
                self.assertFails(NotARoom(room), edge_direction, example(), room, leaving)
                self.assertFails(NotARoom(room), other_end, example(), room, leaving)
            for goal in ((1, 1), (1,), (1, 2, 3), ()):
                self.assertFails(NotARoom(room), goal_factors, example(), room, goal)
                self.assertFails(NotARoom(room), next, climb(example(), room, goal))
        self.assertFails(NotARoom((0,)), corner_point, Bounds(1, [((1,), 0), ((-1,), -1)]), (0,))

    def test_89_a_row_outside_of_the_room(self):
        for room, leaving in (((0, 1), 2), ((0, 1), -1), ((2, 3), 0), ((2, 3), 4), ((2, 3), HUGE)):
            self.assertFails(Mismatch("leaving"), edge_direction, example(), room, leaving)
            self.assertFails(Mismatch("leaving"), other_end, example(), room, leaving)

    def test_90_a_goal_of_another_length(self):
        for goal in ((), (1,), (1, 2, 3), [0, 0, 0, 0]):
            self.assertFails(Mismatch("goal"), goal_factors, example(), (0, 1), goal)
            self.assertFails(Mismatch("goal"), next, climb(example(), (2, 3), goal))

    def test_16_87_corner_points(self):
        for bounds in BOUNDS:
            for room in bounds.corner_rooms():
                told = corner_point(bounds, room)
                self.assertEqual(fractions_of(told), point_of(bounds, room))
                self.assertEqual((type(told), type(told[0])), (tuple, tuple))
                self.assertGreaterEqual(told[1], 1)
                self.assertEqual(math.gcd(told[1], *told[0]), 1)
                self.assertEqual(bounds.tight_rows(*told), room)


class Edges(Case):
    def test_89_directions_and_other_ends(self):
        for bounds in BOUNDS:
            rooms = bounds.corner_rooms()
            for room in rooms:
                for leaving in room:
                    kept = [at for at in room if at != leaving]
                    direction, other = edge_direction(bounds, room, leaving), other_end(bounds, room, leaving)
                    self.assertEqual((type(direction), math.gcd(*direction)), (tuple, 1))
                    self.assertTrue(all(value(bounds.bound_rows[at][0], direction) == 0 for at in kept))
                    self.assertLess(value(bounds.bound_rows[leaving][0], direction), 0)
                    self.assertEqual([other], [end for end in rooms if end != room and set(kept) < set(end)])
                    self.check_between(point_of(bounds, room), point_of(bounds, other), direction)

    def check_between(self, point, other, direction):
        """The way from one end to the other one is a positive multiple of the direction."""
        way = [second - first for first, second in zip(point, other)]
        factor, = {mine / theirs for mine, theirs in zip(way, direction) if theirs != 0}
        self.assertGreater(factor, 0)
        self.assertEqual(way, [factor * number for number in direction])

    def test_89_examples(self):
        self.assertEqual([edge_direction(example(), (2, 3), leaving) for leaving in (2, 3)], [(1, -2), (-2, 1)])
        self.assertEqual([other_end(example(), (2, 3), leaving) for leaving in (2, 3)], [(1, 3), (0, 2)])
        line = Bounds(1, [((6,), 7), ((-3,), 1)])
        self.assertEqual((edge_direction(line, (0,), 0), edge_direction(line, (1,), 1)), ((-1,), (1,)))
        self.assertEqual((other_end(line, (0,), 0), other_end(line, (1,), 1)), ((1,), (0,)))


class Goals(Case):
    def goals(self, unknowns):
        chance = random.Random(unknowns)
        return [[chance.randint(-5, 5) for _ in range(unknowns)] for _ in range(5)] + [[0] * unknowns, [-1] * unknowns]

    def test_90_factors(self):
        for bounds in BOUNDS:
            for room in bounds.corner_rooms()[:8]:
                for goal in self.goals(bounds.unknowns):
                    told = goal_factors(bounds, room, goal)
                    self.assertEqual(goal_factors(bounds, room, tuple(goal)), told)
                    self.assertEqual((type(told), type(told[0]), len(told[0])), (tuple, tuple, len(room)))
                    self.assertGreaterEqual(told[1], 1)
                    self.assertEqual(math.gcd(told[1], *told[0]), 1)
                    for k in range(bounds.unknowns):
                        self.assertEqual(sum(factor * bounds.bound_rows[at][0][k] for at, factor in
                                             zip(room, fractions_of(told))), goal[k])

    def test_90_climbs(self):
        lengths = set()
        for bounds in BOUNDS:
            for start in bounds.corner_rooms()[:6]:
                for goal in self.goals(bounds.unknowns):
                    rooms = list(climb(bounds, start, goal))
                    self.assertEqual(rooms, self.plain_climb(bounds, start, goal))
                    self.assertEqual(list(climb(bounds, start, tuple(goal))), rooms)
                    values = [value(goal, point_of(bounds, room)) for room in rooms]
                    self.assertEqual(values, sorted(set(values)))
                    self.assertEqual(values[-1], max(value(goal, point_of(bounds, room)) for room in bounds.corner_rooms()))
                    lengths.add(len(rooms))
        self.assertTrue({1, 2, 3, 4} <= lengths)

    def plain_climb(self, bounds, room, goal):
        """While the goal grows along an edge, the least such row leaves."""
        rooms = [room]
        while True:
            here = point_of(bounds, rooms[-1])
            ends = [(leaving, end) for leaving in rooms[-1] for end in bounds.corner_rooms()
                    if set(end) > set(rooms[-1]) - {leaving} and end != rooms[-1]]
            better = [end for _, end in sorted(ends) if value(goal, point_of(bounds, end)) > value(goal, here)]
            if not better:
                return rooms
            rooms.append(better[0])

    def test_90_a_climb_of_one_corner(self):
        for goal in ([0, 0], [-1, -1], (-3, 0)):
            self.assertEqual(list(climb(example(), (0, 1), goal)), [(0, 1)])
        for room in example().corner_rooms():
            self.assertEqual(list(climb(example(), room, (0, 0))), [room])
            self.assertEqual(goal_factors(example(), room, (0, 0)), ((0, 0), 1))
        self.assertEqual(list(climb(Bounds(1, box([-2], [3])), (0,), [5])), [(0,)])
        self.assertEqual(list(climb(Bounds(1, box([-2], [3])), (0,), [-5])), [(0,), (1,)])

    def test_90_goals_of_any_size(self):
        self.assertEqual(goal_factors(example(), (1, 3), (HUGE, HUGE)), ((-HUGE // 2, HUGE // 2), 1))
        self.assertEqual(goal_factors(example(), (1, 3), (HUGE + 1, HUGE + 1)), ((-HUGE - 1, HUGE + 1), 2))
        self.assertEqual(list(climb(example(), (0, 1), (HUGE, HUGE))), [(0, 1), (1, 3), (2, 3)])

    def test_1_a_climb_reads_its_arguments_when_it_begins(self):
        goal, bounds = [9], example()
        walk = climb(bounds, (0, 1), goal)
        goal[:] = [1, 1]
        self.assertEqual(next(walk), (0, 1))
        goal.clear()
        bounds.bound_rows, bounds.unknowns = (), 0
        self.assertEqual(list(walk), [(1, 3), (2, 3)])

    def test_93_the_example(self):
        self.assertEqual(example().corner_rooms(), [(0, 1), (0, 2), (1, 3), (2, 3)])
        self.assertEqual(corner_point(example(), (2, 3)), ((4, 4), 3))
        self.assertEqual(goal_factors(example(), (1, 3), (1, 1)), ((-1, 1), 2))
        self.assertEqual(list(climb(example(), (0, 1), (1, 1))), [(0, 1), (1, 3), (2, 3)])
        self.assertEqual(content(example()), (8, 3))


class Contradictions(Case):
    def check_contradiction(self, bounds):
        told = contradiction(bounds)
        self.assertEqual((type(told), len(told)), (tuple, len(bounds)))
        self.assertGreaterEqual(min(told), 0)
        self.assertEqual(math.gcd(*told), 1)
        for k in range(bounds.unknowns):
            self.assertEqual(sum(number * row[k] for number, (row, _) in zip(told, bounds)), 0)
        self.assertLess(sum(number * right for number, (_, right) in zip(told, bounds)), 0)

    def test_91_empty_bounds(self):
        seen = 0
        for seed in range(700):
            bounds = made(*some_rows(seed))
            if bounds is not None and bounds.is_empty:
                self.check_contradiction(bounds)
                seen += 1
        self.assertGreater(seen, 60)

    def test_91_examples(self):
        for unknowns, rows in ((1, [((2,), 0), ((-4,), -1)]), (2, EXAMPLE + [((-1, -1), -9)]), (4, box([1] * 4, [0] * 4)),
                               (1, [((1,), -HUGE), ((-1,), HUGE - 1)]), (3, box([0] * 3, [1] * 3) + [((-1, -1, -1), -4)]),
                               (4, box([0, 0, 0, 5], [1, 1, 1, 4])), (4, box([0] * 4, [1] * 4) + [((3, 3, 3, 3), -1)] * 4)):
            self.check_contradiction(Bounds(unknowns, rows))
        self.assertEqual(contradiction(Bounds(1, [((2,), 0), ((-4,), -1)])), (2, 1))

    def test_91_bounds_with_a_corner(self):
        for bounds in BOUNDS[::5] + [example()]:
            self.assertIsNone(contradiction(bounds))


class Contents(Case):
    def fraction(self, bounds):
        told = content(bounds)
        self.assertEqual((type(told), math.gcd(*told)), (tuple, 1))
        self.assertGreaterEqual(told[1], 1)
        return Fraction(*told)

    def test_92_boxes(self):
        for unknowns in range(1, 5):
            lows, highs = [-3, 0, 2, -HUGE][:unknowns], [4, 5, 3, 1][:unknowns]
            size = math.prod(high - low for low, high in zip(lows, highs))
            self.assertEqual(content(Bounds(unknowns, box(lows, highs))), (size, 1))

    def test_92_simplices(self):
        for unknowns in range(1, 5):
            rows = [(tuple(-int(k == at) for k in range(unknowns)), 0) for at in range(unknowns)]
            rows.append((tuple(range(2, unknowns + 2)), 7))
            size = Fraction(7 ** unknowns, math.factorial(unknowns) * math.prod(range(2, unknowns + 2)))
            self.assertEqual(self.fraction(Bounds(unknowns, rows)), size)

    def test_92_lengths_and_areas_of_some_bounds(self):
        for bounds in BOUNDS:
            corners = list(points_by_room(bounds.unknowns, bounds.bound_rows).values())
            if bounds.unknowns == 1:
                self.assertEqual(self.fraction(bounds), max(corners)[0] - min(corners)[0])
            elif bounds.unknowns == 2:
                self.assertEqual(self.fraction(bounds), self.area(corners))

    def area(self, corners):
        """The area of a polygon: its corners around their middle, pair by pair."""
        middle = [sum(point[k] for point in corners) / len(corners) for k in (0, 1)]
        around = sorted(corners, key=lambda point: math.atan2(point[1] - middle[1], point[0] - middle[0]))
        return sum(first[0] * second[1] - first[1] * second[0]
                   for first, second in zip(around, around[1:] + around[:1])) / 2

    def test_92_a_cut_leaves_two_parts_that_add_up(self):
        seen = 0
        for unknowns, many in ((1, 2), (2, 6), (3, 7), (4, 9)):
            for seed in range(6):
                rows = round_rows(seed, unknowns, many)
                chance = random.Random(seed)
                cut = tuple(chance.randint(-5, 5) or 1 for _ in range(unknowns))
                parts = [made(unknowns, rows), made(unknowns, rows + [(cut, seed)]),
                         made(unknowns, rows + [(tuple(-number for number in cut), -seed)])]
                if None not in parts:
                    whole, first, second = [self.fraction(part) for part in parts]
                    self.assertEqual(whole, first + second)
                    self.assertGreater(whole, max(first, second))
                    seen += 1
        self.assertGreater(seen, 15)

    def test_92_a_box_that_is_bent(self):
        # The rows of the unit box, each taken by a matrix with the determinant 3: the content is a third.
        matrix = [(1, 2, 0, 0), (0, 1, 0, 1), (1, 0, 3, 0), (0, 1, 0, 2)]
        whole = abs(determinant(matrix))
        rows = [(tuple(sum(row[k] * matrix[k][at] for k in range(4)) for at in range(4)), right)
                for row, right in box([0] * 4, [1] * 4)]
        self.assertEqual(content(Bounds(4, rows)), (1, whole))

    def test_92_empty_bounds(self):
        for unknowns in range(1, 5):
            self.assertEqual(content(Bounds(unknowns, box([1] * unknowns, [0] * unknowns))), (0, 1))

    def test_92_opposite_goals_and_goals_with_zeros_do_not_matter(self):
        rows = [((1, 1), 3), ((1, -1), 3), ((-1, 1), 3), ((-1, -1), 3)]
        self.assertEqual(content(Bounds(2, rows)), (18, 1))
        rows = [(signs, 1) for signs in itertools.product((-1, 1), repeat=2)]
        self.assertEqual(content(Bounds(2, rows)), (2, 1))
