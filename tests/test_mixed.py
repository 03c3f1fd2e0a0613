"""Points 125 and 126."""

import itertools

from neveralone.books import Book
from neveralone.errors import BadRule, Mismatch, NotAPartition, TooMany
from neveralone.families import Family
from neveralone.makers import all_rooms
from neveralone.mixed import equal_books, list_sorted, mixed_counts, sizes_of, sorted_mate, sorted_row
from tests.support import Case, ones, order_path, partitions_of, some_even_book, some_family, squares

ORDERS = ("next", "ends", "far")


def mixed_family(seed, sizes, wanted):
    """A family whose books with the same letter in `wanted` are equal, and the others not."""
    found = {}
    for letter, size in zip(wanted, sizes):
        tried = 0
        while letter not in found:
            book = some_even_book(f"{seed} {letter} {tried}", sum(sizes), size)
            if len(book) and all(book != other for other in found.values()):
                found[letter] = book
            tried += 1
    return Family([found[letter] for letter in wanted])


def some_mixed():
    """Families of all different books, of all equal ones, and with equal books apart from each other."""
    shapes = (((2, 2, 2), "aba"), ((2, 2, 2), "abc"), ((2, 2, 2), "aaa"), ((3, 3), "aa"), ((3, 3), "ab"), ((2, 2, 2, 2), "abba"),
              ((2, 3, 2), "aba"), ((2, 1, 2), "aba"), ((1, 3, 1, 2), "abac"), ((4, 4), "aa"))
    families = [mixed_family(seed, sizes, wanted) for sizes, wanted in shapes for seed in range(2)]
    return families + [squares(), ones(4), Family([all_rooms(6, 3)] * 2), some_family(1, (5,))]


def is_sorted(family, row):
    return all(row[at] < row[k] for at in range(len(row)) for k in range(at + 1, len(row)) if family[at] == family[k])


def plain_sorted(family, row):
    """The row with the same rooms for equal books that is sorted, found by trying all orders."""
    found = [other for other in itertools.permutations(row) if is_sorted(family, other)
             and all(sorted(other[k] for k in range(len(row)) if family[k] == book)
                     == sorted(row[k] for k in range(len(row)) if family[k] == book) for book in family)]
    self, = found
    return self


class Books(Case):
    def test_125_sizes(self):
        self.assertEqual(sizes_of(some_family(1, (1, 3, 2))), [1, 3, 2])
        self.assertEqual(sizes_of(squares()), [2, 2])
        self.assertEqual(sizes_of(some_family(1, (5,))), [5])

    def test_125_groups_of_equal_books(self):
        for wanted, groups in (("aba", [(0, 2), (1,)]), ("abc", [(0,), (1,), (2,)]), ("aaa", [(0, 1, 2)]), ("abb", [(0,), (1, 2)])):
            self.assertEqual(equal_books(mixed_family(1, (2, 2, 2), wanted)), groups)
        self.assertEqual(equal_books(mixed_family(1, (2, 2, 2, 2), "abba")), [(0, 3), (1, 2)])
        self.assertEqual(equal_books(mixed_family(1, (1, 3, 1, 2), "abac")), [(0, 2), (1,), (3,)])
        self.assertEqual(equal_books(Family([Book(3, 1, []), Book(3, 2, [])])), [(0,), (1,)])

    def test_125_counts_of_each_book_for_each_place(self):
        for family in some_mixed():
            rows = partitions_of(family)
            told = [[sum(place in row[at] for row in rows) for at in range(len(family))] for place in range(family.places)]
            self.assertEqual(mixed_counts(family), told)
        self.assertEqual(mixed_counts(squares()), [[2, 2]] * 4)

    def test_1_lists_are_new(self):
        family = squares()
        for call in (sizes_of, equal_books, mixed_counts, list_sorted):
            call(family).clear()
            self.assertNotEqual(call(family), [])
        mixed_counts(family)[0].clear()
        self.assertEqual(mixed_counts(family)[0], [2, 2])


class Rows(Case):
    def test_125_sorted_rows(self):
        changed = 0
        for family in some_mixed():
            for row in partitions_of(family)[:60]:
                told = plain_sorted(family, row)
                changed += told != row
                for given in (row, list(row)):
                    self.assertEqual(sorted_row(family, given), told)
                self.assertEqual(sorted_row(family, told), told)
                self.assertEqual((type(told), told in partitions_of(family)), (tuple, True))
        self.assertGreater(changed, 50)

    def test_125_list_of_sorted_partitions(self):
        for family in some_mixed():
            self.assertEqual(list_sorted(family), [row for row in partitions_of(family) if is_sorted(family, row)])
        self.assertEqual(list_sorted(ones(4)), [((0,), (1,), (2,), (3,))])
        self.assertEqual(list_sorted(squares()), [((0, 1), (2, 3)), ((0, 3), (1, 2))])
        self.assertEqual(list_sorted(Family([Book(2, 2, [])])), [])

    def test_126_their_number_is_even(self):
        seen = 0
        for family in some_mixed() + [mixed_family(seed, (1, 2, 2), "abb") for seed in range(5)]:
            if all(len(group) == 1 or family[group[0]].size >= 2 for group in equal_books(family)):
                seen += len(list_sorted(family))
                self.assertEqual(len(list_sorted(family)) % 2, 0)
        self.assertGreater(seen, 100)

    def test_126_equal_books_of_size_1(self):
        self.assertEqual(len(list_sorted(ones(6))), 1)
        family = Family([Book(3, 1, [(0,), (1,)])] * 2 + [Book(3, 1, [(1,), (2,)])])
        self.assertEqual(list_sorted(family), [((0,), (1,), (2,))])
        self.assertEqual(sorted_mate(family, ((1,), (0,), (2,)), 0), ((0,), (1,), (2,)))

    def test_125_more_than_5000_partitions(self):
        self.assertEqual(list_sorted(ones(6)), [tuple((place,) for place in range(6))])
        self.assertFails(TooMany("partitions", 5000), list_sorted, ones(8))

    def test_125_rows_that_are_no_partition(self):
        for fault, row in (("count", ()), ("count", ((0, 1), (2, 3), ())), ("room", ((0, 1), (3, 2))), ("room", ((0, 2), (1, 3))),
                           ("place", ((0, 1), (1, 2))), ("place", ((0, 1), (0, 1)))):
            self.assertFails(NotAPartition(fault), sorted_row, squares(), row)
            self.assertFails(NotAPartition(fault), sorted_row, squares(), list(row))
            self.assertFails(NotAPartition(fault), sorted_mate, squares(), row, 0)


class Mates(Case):
    def test_126_the_sorted_mate(self):
        for family in some_mixed():
            for row in partitions_of(family)[:20]:
                for order in ORDERS:
                    for target in range(family.places):
                        told = sorted_mate(family, row, target, order=order)
                        self.assertEqual(told, plain_sorted(family, order_path(family, row, target, order)[-1]))
                    self.assertEqual(sorted_mate(family, list(row), 0), sorted_mate(family, row, 0, order="next"))

    def test_126_it_differs_and_depends_on_the_sorted_row_alone(self):
        pairs = 0
        for family in some_mixed():
            if all(len(group) == 1 or family[group[0]].size >= 2 for group in equal_books(family)):
                for row in partitions_of(family)[:40]:
                    first = sorted_row(family, row)
                    for target, order in itertools.product(range(0, family.places, 2), ORDERS):
                        told = sorted_mate(family, row, target, order=order)
                        self.assertNotEqual(told, first)
                        self.assertEqual(sorted_mate(family, first, target, order=order), told)
                        # The sorted mate of the sorted mate is the sorted row again.
                        self.assertEqual(sorted_mate(family, told, target, order=order), first)
                        pairs += row != first
        self.assertGreater(pairs, 100)

    def test_126_bad_words_ahead_of_bad_targets_ahead_of_bad_rows(self):
        for order in ("", "Next", "first"):
            for row, target in (((), 9), (((0, 1), (2, 3)), -1), (((0, 1), (2, 3)), 0)):
                self.assertFails(BadRule("order", ()), sorted_mate, squares(), row, target, order=order)
        for target in (-1, 4, 10 ** 40):
            self.assertFails(Mismatch("target"), sorted_mate, squares(), (), target)
            self.assertFails(Mismatch("target"), sorted_mate, squares(), ((0, 1), (2, 3)), target, order="far")
        with self.assertRaises(TypeError):
            sorted_mate(squares(), ((0, 1), (2, 3)), 0, "next")
