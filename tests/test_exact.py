"""Point 16."""

import itertools
import math
import random
import unittest

from neveralone.exact import determinant, first_sign, lowest_terms, sign_of, solve
from tests.support import sign

HUGE = 10 ** 45 + 7


def counted(rows):
    many = len(rows)
    return sum(sign(row) * math.prod(rows[k][row[k]] for k in range(many))
               for row in itertools.permutations(range(many)))


def some_matrices(many, count, low=-4, high=4):
    chance = random.Random(many)
    return [[[chance.randint(low, high) for _ in range(many)] for _ in range(many)] for _ in range(count)]


class Exact(unittest.TestCase):
    def test_16_determinants(self):
        self.assertEqual(determinant([]), 1)
        self.assertEqual(determinant(()), 1)
        self.assertEqual(determinant([[-7]]), -7)
        self.assertEqual(determinant(((0, 1), (1, 0))), -1)
        self.assertEqual(determinant([[0, 0], [1, 2]]), 0)
        for many in (1, 2, 3, 4, 5):
            for rows in some_matrices(many, 30, -2, 2) + some_matrices(many, 10, -HUGE, HUGE):
                self.assertEqual(determinant(rows), counted(rows))

    def test_16_solutions(self):
        seen = set()
        for many in (1, 2, 3, 4):
            for rows in some_matrices(many, 40, -2, 2) + some_matrices(many, 10, -HUGE, HUGE):
                right = [row[0] * 3 - row[-1] + 1 for row in rows]
                found, whole = solve(rows, right), counted(rows)
                seen.add((whole > 0) - (whole < 0))
                if whole == 0:
                    self.assertIsNone(found)
                    continue
                numerators, denominator = found
                self.assertIs(type(numerators), tuple)
                self.assertGreaterEqual(denominator, 1)
                self.assertEqual(math.gcd(denominator, *numerators), 1)
                for row, number in zip(rows, right):
                    self.assertEqual(sum(a * x for a, x in zip(row, numerators)), number * denominator)
        self.assertEqual(seen, {-1, 0, 1})

    def test_16_forms_of_solutions(self):
        self.assertEqual(solve([[-2]], [6]), ((-3,), 1))
        self.assertEqual(solve([[-4]], (6,)), ((-3,), 2))
        self.assertEqual(solve(((0, 2), (3, 0)), [1, 1]), ((2, 3), 6))
        self.assertEqual(solve([[2, 0], [0, 4]], [4, 2]), ((4, 1), 2))
        self.assertEqual(solve([[-1, 0], [0, 5]], [0, 0]), ((0, 0), 1))
        self.assertEqual(solve([[HUGE]], [HUGE * HUGE]), ((HUGE,), 1))
        self.assertIsNone(solve([[0]], [0]))
        self.assertIsNone(solve([[1, 2], [2, 4]], [1, 2]))

    def test_16_lowest_terms(self):
        self.assertEqual(lowest_terms([6, -9, 0]), (2, -3, 0))
        self.assertEqual(lowest_terms((-4,)), (-1,))
        self.assertEqual(lowest_terms([-4, -6]), (-2, -3))
        self.assertEqual(lowest_terms([5, 7]), (5, 7))
        self.assertEqual(lowest_terms([HUGE * 3, HUGE * 5]), (3, 5))
        self.assertEqual(lowest_terms([]), ())
        self.assertEqual(lowest_terms([0, 0]), (0, 0))
        self.assertEqual(lowest_terms((0,)), (0,))

    def test_16_signs(self):
        self.assertEqual([sign_of(number) for number in (HUGE, 1, 0, -1, -HUGE)], [1, 1, 0, -1, -1])
        self.assertEqual(first_sign([0, 0, -HUGE, 5]), -1)
        self.assertEqual(first_sign((0, 3, -5)), 1)
        self.assertEqual(first_sign([0, 0]), 0)
        self.assertEqual(first_sign([]), 0)

    def test_1_arguments_stay_as_they_are(self):
        rows, right, numbers = [[0, 2], [3, 4]], [5, 6], [4, 6]
        determinant(rows), solve(rows, right), lowest_terms(numbers)
        self.assertEqual((rows, right, numbers), ([[0, 2], [3, 4]], [5, 6], [4, 6]))
