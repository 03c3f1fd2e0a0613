"""Points 41 to 44."""

import itertools

from neveralone.books import Book
from neveralone.errors import BadPaper, Mismatch
from neveralone.families import Family
from neveralone.ledgers import check_ledger, counts_by_place, join_families, ledger, parity
from neveralone.makers import all_rooms
from neveralone.partitions import count_partitions, list_partitions
from tests.support import Case, all_families, partitions_of, square_book

SHAPES = ((2, 2), (1, 1, 1), (1, 2, 3), (3, 3), (2, 2, 2), (2, 1, 1), (4,))


def squares():
    return Family([square_book(), square_book()])


def lonely():
    """A family without partitions."""
    return Family([square_book(), Book(4, 2, [])])


def counted_ledger(family):
    """The ledger, found by trying each choice of rooms."""
    lists = []
    for many in range(len(family) + 1):
        found = {}
        for rooms in itertools.product(*[book.rooms for book in family.books[:many]]):
            places = tuple(sorted(itertools.chain(*rooms)))
            if len(set(places)) == len(places):
                found[places] = found.get(places, 0) + 1
        lists.append(sorted(found.items()))
    return lists


class Ledgers(Case):
    def test_41_ledgers(self):
        for sizes in SHAPES:
            for family in all_families(sizes, range(3)):
                found = ledger(family)
                self.assertEqual(found, counted_ledger(family))
                self.assertEqual(found[0], [((), 1)])
                many = count_partitions(family)
                self.assertEqual(found[-1], [(tuple(range(family.places)), many)] if many else [])
                self.assertEqual(check_ledger(family, found), many)

    def test_41_example(self):
        self.assertEqual(ledger(squares()), [[((), 1)], [((0, 1), 1), ((0, 3), 1), ((1, 2), 1), ((2, 3), 1)],
                                             [((0, 1, 2, 3), 4)]])
        self.assertEqual(ledger(lonely())[2], [])
        self.assertEqual(ledger(Family([Book(1, 1, [])])), [[((), 1)], []])

    def test_41_numbers_of_several_ways(self):
        self.assertEqual(ledger(Family([all_rooms(4, 1)] * 4))[2],
                         [(room, 2) for room in itertools.combinations(range(4), 2)])

    def test_1_ledgers_are_new(self):
        found = ledger(squares())
        for pairs in found:
            pairs.clear()
        self.assertEqual(ledger(squares())[0], [((), 1)])

    def test_42_right_ledgers_of_any_kind(self):
        told = ledger(squares())
        self.assertEqual(check_ledger(squares(), told), 4)
        self.assertEqual(check_ledger(squares(), tuple(tuple(pairs) for pairs in told)), 4)
        self.assertEqual(told, ledger(squares()))
        self.assertEqual(check_ledger(lonely(), ledger(lonely())), 0)

    def test_42_too_few_and_too_many_lists(self):
        told = ledger(squares())
        for lists in ([], told[:2], told + [[]], told + told, [[], []]):
            self.assertFails(BadPaper(len(lists), "count"), check_ledger, squares(), lists)

    def test_42_changed_entries(self):
        right = ledger(squares())
        for at, pairs in enumerate(right):
            wrong = [pairs + [((0, 2), 1)], pairs[1:], pairs + pairs[:1], [(room, number + 1) for room, number in pairs],
                     [(room + (9,), number) for room, number in pairs], []]
            if len(pairs) > 1:
                wrong.append(pairs[::-1])
            for changed in wrong:
                told = right[:at] + [changed] + right[at + 1:]
                self.assertFails(BadPaper(at, "entry"), check_ledger, squares(), told)
                told = right[:at] + [tuple(changed)] + [[] for _ in right[at + 1:]]
                self.assertFails(BadPaper(at, "entry"), check_ledger, squares(), told)
        self.assertFails(BadPaper(2, "entry"), check_ledger, lonely(), ledger(lonely())[:2] + [[((0, 1, 2, 3), 0)]])


class Counts(Case):
    def test_43_parity_is_always_0(self):
        for sizes in SHAPES:
            for family in all_families(sizes, range(3)):
                self.assertEqual(parity(family), 0)
                self.assertIs(type(parity(family)), int)

    def test_43_counts_by_place(self):
        for sizes in SHAPES:
            for family in all_families(sizes, range(3)):
                rows = partitions_of(family)
                for place in range(family.places):
                    counts = [sum(1 for row in rows if place in row[at]) for at in range(len(family))]
                    self.assertEqual(counts_by_place(family, place), counts)
                    self.assertEqual(sum(counts_by_place(family, place)), len(rows))

    def test_43_families_without_partitions(self):
        self.assertEqual(counts_by_place(lonely(), 2), [0, 0])
        self.assertEqual(parity(lonely()), 0)
        self.assertEqual(counts_by_place(squares(), 2), [2, 2])


class JoinedFamilies(Case):
    def test_44_books_and_partitions(self):
        for first in all_families((1, 2), range(2)) + [squares()]:
            for second in all_families((2, 1, 1), range(2)) + [squares(), lonely()]:
                joined = join_families(first, second)
                by = first.places
                self.assertEqual(joined.places, by + second.places)
                moved = [[tuple(place + by for place in room) for room in book] for book in second]
                self.assertEqual([list(book) for book in joined], [list(book) for book in first] + moved)
                self.assertEqual([book.size for book in joined], [book.size for book in (*first, *second)])
                rows = [row + tuple(tuple(p + by for p in room) for room in other)
                        for row in partitions_of(first) for other in partitions_of(second)]
                self.assertEqual(list_partitions(joined), rows)

    def test_44_up_to_12_places_and_beyond(self):
        six, seven, eight = [Family([Book(places, places, [])]) for places in (6, 7, 8)]
        self.assertEqual(join_families(six, six).places, 12)
        self.assertEqual(join_families(squares(), eight).places, 12)
        self.assertFails(Mismatch("places"), join_families, six, seven)
        self.assertFails(Mismatch("places"), join_families, seven, six)
        self.assertFails(Mismatch("places"), join_families, eight, eight)
