"""Points 8 to 11."""

import random
from collections import Counter

from neveralone.books import Book
from neveralone.chains import Chain
from neveralone.errors import BadBook, BadChain, Mismatch
from tests.support import Case, rooms_over, sign, some_book

HUGE = 10 ** 50


def added(places, degree, rows):
    """The chain that rows add up to, counted without the program."""
    table = Counter()
    for row, number in rows:
        table[tuple(sorted(row))] += number * sign(row)
    return places, degree, tuple(sorted((room, x) for room, x in table.items() if x))


def parts(chain):
    return chain.places, chain.degree, chain.terms


def some_chain(seed, places, degree):
    chance = random.Random(f"{seed} {places} {degree}")
    return Chain(places, degree, [(room, chance.randint(-3, 3)) for room in rooms_over(places, degree)])


def signed_square():
    """A signed book: the boundary of one room of four places."""
    return Chain(5, 4, [((0, 1, 2, 4), 1)]).boundary()


class MakingChains(Case):
    def test_8_rows_in_any_order_add_up(self):
        chain = Chain(4, 2, [((1, 0), 3), ((0, 1), 1), ((2, 3), HUGE), ((3, 0), -5)])
        self.assertEqual(parts(chain), (4, 2, (((0, 1), -2), ((0, 3), 5), ((2, 3), HUGE))))
        self.assertEqual(Chain(4, 3, [((2, 0, 1), 7), ([2, 1, 0], 7), ((3, 1, 0), 2)]).terms,
                         (((0, 1, 3), -2),))

    def test_8_terms_that_add_up_to_0_vanish(self):
        self.assertEqual(Chain(4, 2, [((0, 1), 3), ((1, 0), 3)]).terms, ())
        self.assertEqual(Chain(4, 2, [((0, 1), 0)]).terms, ())
        self.assertEqual(Chain(4, 2, [((0, 1), HUGE), ((0, 1), -HUGE), ((0, 2), 1)]).terms, (((0, 2), 1),))

    def test_8_degree_0_and_degrees_beyond_the_places(self):
        self.assertEqual(Chain(3, 0, [((), 4), ((), -1)]).terms, (((), 3),))
        self.assertEqual(parts(Chain(3, 4, [])), (3, 4, ()))
        self.assertEqual(parts(Chain(1, HUGE, ())), (1, HUGE, ()))

    def test_8_faults_of_the_bounds(self):
        for places in (0, 13, -1, HUGE):
            self.assertFails(BadChain("places", 0), Chain, places, -1, [((), 1)])
        self.assertFails(BadChain("degree", 0), Chain, 4, -1, [((0, 0), 1)])
        self.assertFails(BadChain("degree", 0), Chain, 12, -HUGE, [])

    def test_8_each_fault_of_a_row_with_its_index(self):
        good = [((0, 1), 1), ((0, 1), 1)]
        for row, fault in (((0,), "count"), ((), "count"), ((0, 1, 2), "count"), ((9, 9, 9), "count"),
                           ((0, 4), "place"), ((-1, 2), "place"), ((9, 9), "place"), ((2, 2), "twice")):
            self.assertFails(BadChain(fault, 2), Chain, 4, 2, good + [(row, 0)])
            self.assertFails(BadChain(fault, 2), Chain, 4, 2, good + [(row, 1), ((0,), 1), ((0, 9), 1)])
        self.assertFails(BadChain("count", 0), Chain, 4, 0, [((0,), 1)])
        self.assertFails(BadChain("place", 0), Chain, 1, 2, [((0, 1), 1)])
        self.assertFails(BadChain("twice", 0), Chain, 1, 2, [((0, 0), 1)])

    def test_8_equality(self):
        chain = Chain(4, 2, [((1, 0), 3)])
        self.assertTrue(chain == Chain(4, 2, [((0, 1), -1), ((0, 1), -2)]))
        self.assertFalse(chain == Chain(5, 2, [((1, 0), 3)]))
        self.assertFalse(chain == Chain(4, 2, [((0, 1), 3)]))
        self.assertFalse(Chain(4, 2, []) == Chain(4, 3, []))
        self.assertFalse(chain == chain.terms)

    def test_8_a_chain_copies_its_terms(self):
        row, terms = [0, 1], []
        terms.append((row, 5))
        chain = Chain(4, 2, terms)
        row[1] = 2
        terms.append((row, 7))
        self.assertEqual(chain.terms, (((0, 1), 5),))
        self.assertEqual(chain[0, 1], 5)
        self.assertEqual(terms, [([0, 2], 5), ([0, 2], 7)])

    def test_chains_of_books_and_of_points(self):
        book = some_book(1, 5, 3)
        self.assertEqual(parts(Chain.of_book(book)), (5, 3, tuple((room, 1) for room in book)))
        self.assertEqual(parts(Chain.of_book(Book(5, 3, []))), (5, 3, ()))
        self.assertEqual(parts(Chain.point(4, 3)), (4, 1, (((3,), 1),)))
        self.assertFails(BadChain("places", 0), Chain.point, 13, 20)
        self.assertFails(BadChain("place", 0), Chain.point, 4, 4)
        self.assertFails(BadChain("place", 0), Chain.point, 4, -1)


class Arithmetic(Case):
    def test_9_coefficients_of_rows(self):
        chain = Chain(5, 3, [((0, 1, 2), 4), ((1, 2, 4), -HUGE)])
        self.assertEqual(chain[0, 1, 2], 4)
        self.assertEqual(chain[1, 0, 2], -4)
        self.assertEqual(chain[2, 0, 1], 4)
        self.assertEqual(chain[(4, 2, 1)], HUGE)
        self.assertEqual(Chain(3, 0, [((), 6)])[()], 6)

    def test_9_rows_without_a_term_have_0(self):
        chain = Chain(5, 3, [((0, 1, 2), 4)])
        for row in ((0, 1, 3), (0, 1), (0, 1, 2, 3), (), (0, 1, 5), (-1, 0, 1), (HUGE, 1, 0)):
            self.assertEqual(chain[row], 0)

    def test_9_sums(self):
        first, second = some_chain(1, 5, 2), some_chain(2, 5, 2)
        self.assertEqual(parts(first + second), added(5, 2, first.terms + second.terms))
        minus = tuple((room, -x) for room, x in second.terms)
        self.assertEqual(parts(-second), (5, 2, minus))
        self.assertEqual(parts(first - second), added(5, 2, first.terms + minus))
        self.assertEqual((first - first).terms, ())
        self.assertEqual((Chain(2, 9, []) + Chain(2, 9, [])).degree, 9)

    def test_9_multiples(self):
        chain = some_chain(3, 5, 2)
        for number in (0, 1, -1, 7, -HUGE):
            right = tuple((room, number * x) for room, x in chain.terms if number)
            self.assertEqual(parts(number * chain), (5, 2, right))
            self.assertEqual(parts(chain.scaled(number)), (5, 2, right))

    def test_9_products(self):
        for degrees in ((0, 0), (0, 2), (1, 1), (2, 1), (2, 3), (3, 3), (2, 4), (4, 3), (6, 6)):
            first, second = [some_chain(at, 6, degree) for at, degree in enumerate(degrees)]
            rows = [(r + s, x * y) for r, x in first for s, y in second if not set(r) & set(s)]
            self.assertEqual(parts(first * second), added(6, sum(degrees), rows))

    def test_9_the_sign_of_a_product(self):
        first, second = Chain(3, 1, [((1,), 2)]), Chain(3, 1, [((0,), 5)])
        self.assertEqual((first * second).terms, (((0, 1), -10),))
        self.assertEqual((second * first).terms, (((0, 1), 10),))
        self.assertEqual((first * first).terms, ())

    def test_9_powers(self):
        chain = some_chain(4, 6, 2)
        one = Chain(6, 0, [((), 1)])
        self.assertEqual(chain ** 0, one)
        self.assertEqual(Chain(6, 9, []) ** 0, one)
        self.assertEqual(chain ** 1, chain)
        self.assertEqual(chain ** 2, chain * chain)
        self.assertEqual(chain ** 3, chain * chain * chain)
        self.assertNotEqual((chain ** 3).terms, ())
        self.assertEqual(parts(chain ** 64), (6, 128, ()))
        self.assertEqual((Chain(2, 0, [((), -3)]) ** 64).terms, (((), 3 ** 64),))
        self.assertEqual((Chain(2, 0, [((), -3)]) ** 63).terms, (((), -3 ** 63),))

    def test_9_shifts(self):
        chain = Chain(4, 2, [((0, 3), 5), ((1, 2), -1)])
        self.assertEqual(parts(chain << 0), parts(chain))
        self.assertEqual(parts(chain << 3), (7, 2, (((3, 6), 5), ((4, 5), -1))))
        self.assertEqual((chain << 8).places, 12)
        for by in (9, 10, HUGE):
            self.assertFails(BadChain("places", 0), lambda: chain << by)
            self.assertFails(BadChain("places", 0), lambda: Chain(4, 7, []) << by)
        self.assertEqual(parts(Chain(12, 0, [((), 2)]) << 0), (12, 0, (((), 2),)))

    def test_9_sizes_and_iteration(self):
        chain = Chain(4, 2, [((2, 3), -5), ((0, 1), HUGE)])
        self.assertEqual(abs(chain), HUGE + 5)
        self.assertEqual(len(chain), 2)
        self.assertEqual(list(chain), [((0, 1), HUGE), ((2, 3), -5)])
        self.assertEqual((abs(Chain(4, 2, [])), len(Chain(4, 2, []))), (0, 0))

    def test_9_mismatches(self):
        chain = Chain(4, 2, [])
        for other in (Chain(5, 2, []), Chain(5, 3, [])):
            self.assertFails(Mismatch("places"), lambda: chain + other)
            self.assertFails(Mismatch("places"), lambda: chain - other)
            self.assertFails(Mismatch("places"), lambda: chain * other)
        self.assertFails(Mismatch("degree"), lambda: chain + Chain(4, 3, []))
        self.assertFails(Mismatch("degree"), lambda: chain - Chain(4, 3, []))
        self.assertEqual((chain * Chain(4, 3, [])).degree, 5)

    def test_1_operators_leave_their_chains_alone(self):
        first, second = some_chain(1, 4, 2), some_chain(2, 4, 2)
        kept = parts(first), parts(second)
        first + second, first - second, first * second, -first, 3 * first, first ** 2, first << 1
        first.boundary(), first.mapped(4, [1, 2, 3, 0])
        self.assertEqual((parts(first), parts(second)), kept)


class Boundaries(Case):
    def test_10_boundary(self):
        for places, degree in ((3, 1), (5, 2), (6, 3), (6, 6), (4, 5)):
            chain = some_chain(1, places, degree)
            rows = [(room[:k] + room[k + 1:], x * (-1) ** k) for room, x in chain for k in range(degree)]
            self.assertEqual(parts(chain.boundary()), added(places, degree - 1, rows))

    def test_10_signs_alternate_from_the_first_place(self):
        self.assertEqual(Chain(4, 3, [((0, 2, 3), 5)]).boundary().terms,
                         (((0, 2), 5), ((0, 3), -5), ((2, 3), 5)))
        self.assertEqual(Chain(4, 1, [((2,), 5), ((3,), -1)]).boundary().terms, (((), 4),))

    def test_10_degree_0_has_no_boundary(self):
        self.assertFails(Mismatch("degree"), Chain(4, 0, [((), 1)]).boundary)
        self.assertFails(Mismatch("degree"), Chain(4, 0, []).boundary)

    def test_10_the_boundary_of_a_boundary_has_no_terms(self):
        for degree in (2, 3, 5):
            twice = some_chain(2, 6, degree).boundary().boundary()
            self.assertEqual(parts(twice), (6, degree - 2, ()))

    def test_10_the_boundary_of_a_product(self):
        for d, e in ((1, 1), (1, 3), (2, 2), (3, 2), (2, 4), (3, 3), (5, 4)):
            a, b = some_chain(3, 6, d), some_chain(4, 6, e)
            self.assertEqual((a * b).boundary(), a.boundary() * b + (-1) ** d * (a * b.boundary()))


class MapsAndBooks(Case):
    def test_11_mapping(self):
        chain = some_chain(5, 5, 3)
        for images in ([4, 3, 2, 1, 0], (0, 2, 4, 6, 8), (1, 1, 2, 3, 0), (2, 2, 2, 0, 1), (0,) * 5):
            rows = [(tuple(images[p] for p in room), x) for room, x in chain]
            rows = [(row, x) for row, x in rows if len(set(row)) == 3]
            self.assertEqual(parts(chain.mapped(9, images)), added(9, 3, rows))

    def test_11_maps_that_are_not_one_to_one(self):
        chain = Chain(3, 2, [((0, 1), 5), ((0, 2), 7), ((1, 2), 1)])
        self.assertEqual(chain.mapped(2, (0, 0, 1)).terms, (((0, 1), 8),))
        self.assertEqual(chain.mapped(2, (1, 0, 1)).terms, (((0, 1), -4),))
        self.assertEqual(parts(chain.mapped(1, (0, 0, 0))), (1, 2, ()))
        self.assertEqual(Chain(3, 0, [((), 4)]).mapped(1, (0, 0, 0)).terms, (((), 4),))

    def test_11_mapping_commutes(self):
        a, b = some_chain(6, 6, 2), some_chain(7, 6, 3)
        for images in ((5, 4, 0, 1, 2, 3), (0, 0, 1, 2, 3, 4), (7, 7, 2, 2, 4, 0)):
            self.assertEqual(a.boundary().mapped(8, images), a.mapped(8, images).boundary())
            self.assertEqual((a * b).mapped(8, images), a.mapped(8, images) * b.mapped(8, images))

    def test_11_odd_book(self):
        chain = Chain(4, 2, [((0, 1), 3), ((0, 2), -HUGE), ((1, 2), -7), ((2, 3), HUGE + 1)])
        self.assertEqual(chain.odd_book(), Book(4, 2, [(0, 1), (1, 2), (2, 3)]))
        self.assertEqual(Chain(4, 4, []).odd_book(), Book(4, 4, []))

    def test_11_degrees_that_are_no_size(self):
        self.assertFails(BadBook("size", 0), Chain(4, 0, [((), 1)]).odd_book)
        self.assertFails(BadBook("size", 0), Chain(4, 5, []).odd_book)
        self.assertFails(BadBook("size", 0), Chain(4, HUGE, []).odd_book)

    def test_11_the_odd_book_of_a_signed_book_is_even(self):
        self.assertEqual(signed_square().boundary().terms, ())
        self.assertTrue(signed_square().odd_book().is_even)
        product = Chain.point(5, 0) - Chain.point(5, 3)
        product = product * (Chain.point(5, 1) - Chain.point(5, 4))
        self.assertEqual(product.boundary().terms, ())
        self.assertTrue(product.odd_book().is_even)
