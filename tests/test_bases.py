"""Points 108 to 110, and the exact solutions of point 16 in bases."""

import functools
import itertools
import math
import random
from fractions import Fraction

from neveralone.bases import base_solution, bases_book, bases_chain, check_matrix, is_base, other_base
from neveralone.books import Book
from neveralone.errors import BadBounds, Mismatch, NotARoom
from neveralone.signs import is_signed
from tests.support import Case, plain_determinant, rooms_over, sign, sign_of_number

CALLS = (check_matrix, bases_book, bases_chain, lambda matrix: is_base(matrix, ()), lambda matrix: base_solution(matrix, ()),
         lambda matrix: other_base(matrix, (), 0))
PAIR = [[1, 1, 0], [0, 1, 2]]


def some_matrix(seed, many, things, most=1):
    """A matrix without a column of zeros."""
    chance = random.Random(f"matrix {seed} {many} {things} {most}")
    matrix = [[chance.randint(0, most) for _ in range(things)] for _ in range(many)]
    for column in range(things):
        if not any(row[column] for row in matrix):
            matrix[chance.randrange(many)][column] = chance.randint(1, most)
    return matrix


def all_sizes():
    return [(many, things) for many in range(1, 5) for things in (1, 2, 3, 5, 8)]


def some_matrices():
    """Matrices of all sizes: of zeros and ones, with many ties, and with entries of any size."""
    return [some_matrix(seed, many, things, most) for many, things in all_sizes() for seed, most in ((0, 1), (1, 2), (2, 10 ** 25))]


def column(matrix, place):
    things = len(matrix[0])
    if place < things:
        return [row[place] for row in matrix]
    return [int(at == place - things) for at in range(len(matrix))]


def plain_numbers(matrix, room):
    """The coefficients of each number of the solution, with rising powers of e, or None."""
    square = list(zip(*[column(matrix, place) for place in room]))
    whole = plain_determinant(square)
    if whole == 0:
        return None
    many = len(matrix)
    rights = [[1] * many] + [[int(at == k) for at in range(many)] for k in range(many)]
    return [[Fraction(plain_determinant([list(row[:at]) + [right[k]] + list(row[at + 1:]) for k, row in enumerate(square)]), whole)
             for right in rights] for at in range(many)]


def plain_is_base(matrix, room):
    numbers = plain_numbers(matrix, room)
    return numbers is not None and all(next(part for part in number if part != 0) > 0 for number in numbers)


def plain_bases(matrix):
    return list(known_bases(tuple(map(tuple, matrix))))


@functools.lru_cache(None)
def known_bases(matrix):
    many, things = len(matrix), len(matrix[0])
    return [room for room in rooms_over(many + things, many) if plain_is_base(matrix, room)]


class Faults(Case):
    def assertBad(self, fault, at, matrix):
        for call in CALLS:
            self.assertFails(BadBounds(fault, at), call, matrix)
            self.assertFails(BadBounds(fault, at), call, tuple(map(tuple, matrix)))

    def test_108_right_matrices(self):
        for matrix in some_matrices():
            self.assertEqual(check_matrix(matrix), (len(matrix), len(matrix[0])))
            self.assertEqual(check_matrix(tuple(map(tuple, matrix))), (len(matrix), len(matrix[0])))
        self.assertEqual(check_matrix([(10 ** 50,)]), (1, 1))
        self.assertIs(type(check_matrix(PAIR)), tuple)

    def test_108_rows(self):
        self.assertBad("rows", 0, [])
        self.assertBad("rows", 5, [[1]] * 5)
        self.assertBad("rows", 5, [[]] + [[-1, 0]] * 4)

    def test_108_columns(self):
        for matrix, at in (([[]], 0), ([[1] * 9], 0), ([[], [1]], 0), ([[-1] * 9, [0]], 0), ([[1], []], 1), ([[1], [1, 1]], 1),
                           ([[1, 1], [1, 1], [1], [1, 1, 1]], 2), ([[0], [-1], [0], [0, 0]], 3), ([[1, 2], [1] * 9], 1)):
            self.assertBad("columns", at, matrix)

    def test_108_entries(self):
        for matrix, at in (([[-1]], 0), ([[1, 1], [1, -1]], 1), ([[0, 1], [0, 1], [-10 ** 40, 1]], 2), ([[0, -1], [-1, 0]], 0),
                           ([[0, 1], [0, -1]], 1), ([[0] * 7 + [-1]], 0)):
            self.assertBad("entry", at, matrix)

    def test_108_columns_of_zeros(self):
        for matrix, at in (([[0]], 0), ([[1, 0]], 1), ([[0, 0], [0, 0]], 0), ([[1, 0, 0], [0, 1, 0]], 2), ([[1, 0, 1, 0], [1, 0, 0, 0]], 1),
                           ([[1] * 7 + [0]] * 4, 7)):
            self.assertBad("zero", at, matrix)


class Bases(Case):
    def test_109_each_room(self):
        seen = set()
        for matrix in some_matrices():
            places = len(matrix) + len(matrix[0])
            for room in rooms_over(places, len(matrix))[::3]:
                told = is_base(matrix, room)
                self.assertIs(told, plain_is_base(matrix, room))
                self.assertIs(is_base(tuple(map(tuple, matrix)), room), told)
                numbers = plain_numbers(matrix, room)
                seen.add((told, numbers is not None and min(number[0] for number in numbers) == 0))
        self.assertEqual(seen, {(True, True), (True, False), (False, True), (False, False)})

    def test_109_numbers_that_are_0_for_e_0(self):
        # The right sides are 1 + e and 1 + e * e, so the number of the thing 0 is 1 + e or 1 + e * e.
        matrix = [[1, 1], [1, 2]]
        self.assertEqual([is_base(matrix, room) for room in ((0, 2), (0, 3), (0, 1))], [True, False, False])
        self.assertEqual(base_solution(matrix, (0, 2)), ((1, 0), 1))
        self.assertEqual([is_base([[1], [1], [1]], room) for room in ((0, 1, 2), (0, 1, 3), (0, 2, 3))], [True, False, False])

    def test_109_rooms_of_too_few_and_too_many_places_descending_ones_and_places_outside(self):
        self.assertTrue(is_base(PAIR, (0, 2)))
        for room in ((), (0,), (0, 2, 3), (2, 0), (0, 0), (0, 5), (-1, 2), (-3, 2), (0, 99), (0, 1, 2, 3, 4), (4, 3), (10 ** 40, 0)):
            self.assertIs(is_base(PAIR, room), False)
            self.assertFails(NotARoom(room), base_solution, PAIR, room)
            for entering in (1, 0, 99):
                self.assertFails(NotARoom(room), other_base, PAIR, room, entering)

    def test_109_equal_columns(self):
        matrix = [[1, 1, 1], [2, 2, 0]]
        self.assertEqual([is_base(matrix, room) for room in ((0, 1), (0, 2), (0, 3), (1, 3))], [False, True, True, True])
        self.assertEqual([room for room in rooms_over(5, 2) if is_base(matrix, room)], plain_bases(matrix))

    def test_109_16_solutions_for_e_0(self):
        for matrix in some_matrices():
            for room in plain_bases(matrix)[::2]:
                numerators, denominator = base_solution(matrix, room)
                self.assertEqual([Fraction(number, denominator) for number in numerators],
                                 [number[0] for number in plain_numbers(matrix, room)])
                self.assertGreaterEqual(denominator, 1)
                self.assertEqual(math.gcd(denominator, *numerators), 1)
                self.assertIs(type(numerators), tuple)
        self.assertEqual(base_solution(PAIR, (0, 2)), ((2, 1), 2))
        self.assertEqual(base_solution(PAIR, (3, 4)), ((1, 1), 1))
        self.assertEqual(base_solution([[10 ** 40]], (0,)), ((1,), 10 ** 40))
        self.assertEqual(base_solution([[10 ** 40]], (1,)), ((1,), 1))

    def test_109_rooms_that_are_no_base(self):
        for room in ((0, 3), (2, 4), (1, 4)):
            self.assertFails(NotARoom(room), base_solution, PAIR, room)
            self.assertFails(NotARoom(room), other_base, PAIR, room, 99)


class Books(Case):
    def test_110_the_bases_book(self):
        for matrix in some_matrices():
            many, things = len(matrix), len(matrix[0])
            places = many + things
            rooms = [tuple(sorted(set(range(places)) - set(base))) for base in plain_bases(matrix)]
            book = bases_book(matrix)
            self.assertEqual(book, Book(places, things, rooms))
            self.assertEqual(bases_book(tuple(map(tuple, matrix))), book)
            self.assertTrue(book.is_two_each)
            self.assertIn(tuple(range(things)), book)

    def test_110_one_by_one_and_the_largest(self):
        self.assertEqual(bases_book([[7]]), Book(2, 1, [(0,), (1,)]))
        self.assertEqual((bases_book([[1] * 8] * 4).places, bases_book([[1] * 8] * 4).size), (12, 8))

    def test_110_the_bases_chain(self):
        for matrix in some_matrices():
            places = len(matrix) + len(matrix[0])
            terms = {}
            for base in plain_bases(matrix):
                rest = tuple(sorted(set(range(places)) - set(base)))
                square = [column(matrix, place) for place in base]
                terms[rest] = sign(rest + base) * sign_of_number(plain_determinant(square))
            chain = bases_chain(matrix)
            self.assertEqual((chain.places, chain.degree, chain.terms), (places, len(matrix[0]), tuple(sorted(terms.items()))))
            self.assertTrue(is_signed(chain))
            self.assertEqual(chain.odd_book(), bases_book(matrix))

    def test_110_the_other_base(self):
        for matrix in some_matrices()[::2]:
            bases = plain_bases(matrix)
            for base in bases[::2]:
                for entering in set(range(len(matrix) + len(matrix[0]))) - set(base):
                    other, = [other for other in bases if other != base and set(other) < set(base) | {entering}]
                    self.assertEqual(other_base(matrix, base, entering), other)
                    left, = set(base) - set(other)
                    self.assertEqual(other_base(matrix, other, left), base)
        self.assertEqual(other_base([[1]], (0,), 1), (1,))

    def test_110_entering_within_the_room_negative_and_too_great(self):
        for entering in (0, 2, -1, -5, 5, 10 ** 40):
            self.assertFails(Mismatch("entering"), other_base, PAIR, (0, 2), entering)
        for entering in (1, 3, 4):
            self.assertIn(entering, other_base(PAIR, (0, 2), entering))

    def test_110_all_small_matrices(self):
        for entries in itertools.product((0, 1, 2), repeat=4):
            matrix = [entries[:2], entries[2:]]
            if any(entries[::2]) and any(entries[1::2]):
                self.assertEqual([room for room in rooms_over(4, 2) if is_base(matrix, room)], plain_bases(matrix))
                self.assertTrue(bases_book(matrix).is_two_each)
                self.assertTrue(is_signed(bases_chain(matrix)))

    def test_1_matrices_are_not_changed(self):
        matrix = [list(row) for row in PAIR]
        bases_chain(matrix)
        base_solution(matrix, (0, 2))
        other_base(matrix, (0, 2), 1)
        self.assertEqual(matrix, PAIR)
