"""Points 127 to 131, for all kinds of worlds."""

import itertools

from neveralone.base_worlds import BaseWorld, ShareWorld
from neveralone.books import Book
from neveralone.errors import (BadBook, BadBounds, BadFamily, BadLabels, BadOrders, BadParties, BadRule, BadTable, Mismatch,
                               NotAPartition, NotEven, Tied, TooMany)
from neveralone.families import Family
from neveralone.label_worlds import LabelWorld, StringWorld
from neveralone.labels import another_full, full_rooms, label_family
from neveralone.lot_worlds import LotWorld
from neveralone.lotpaths import lot_mate, lot_pairs
from neveralone.lots import list_lots, lot_family
from neveralone.makers import all_rooms, ring_book
from neveralone.partitions import list_partitions
from neveralone.paths import mate
from neveralone.rest_paths import rest_from_start, rest_mate
from neveralone.rests import list_rests, rest_of_row
from neveralone.rooms import complement
from neveralone.shares import base_family, base_path, share_family, stable_shares, unbeaten_bases
from neveralone.strings import another_pairing, full_strings, label_web, string_names, web_pairings
from neveralone.table_worlds import TableWorld
from neveralone.tables import start_row, table_family
from neveralone.worlds import World
from tests.support import Case, lots_of, ones, order_path, partitions_of, some_even_book, some_family, square_book, squares
from tests.test_shares import RING, all_parties, some_pairs
from tests.test_tables import BOTH_TIES, COLUMN_TIE, FIRST, ROW_TIE, SECOND, untied_tables

METHODS = ("thing_of", "row_of", "things", "number", "other", "from_start", "matched")
RESTS = [((0, 1), (0, 1)), ((1, 0), (1, 0)), ((2, 1), (1, 2))]


def some_labels(places, kinds):
    return [at % kinds + 1 for at in range(places)]


def plain_worlds():
    families = [squares(), ones(4), some_family(1, (2, 4)), some_family(2, (3, 3)), some_family(1, (2, 2, 3)), some_family(1, (1, 1, 4))]
    worlds = [World(family) for family in families + [Family([Book(3, 3, [])]), Family([Book(3, 1, []), Book(3, 2, [])])]]
    for family in families:
        rows = list_partitions(family)
        worlds.extend(World(family, row) for row in (rows[:1] + rows[-1:] + rows[len(rows) // 2:][:1]))
    return worlds


def label_worlds():
    return [LabelWorld(some_even_book(seed, places, size), some_labels(places, size))
            for places, size in ((4, 2), (6, 3), (7, 2), (5, 1), (8, 4)) for seed in range(2)]


def string_worlds():
    labels = ([1, 2, 1, 2], [1, 2, 1, 2, 2], [1, 2, 3, 4, 1, 2, 3], [2, 1, 1, 2, 2, 1], [1, 2, 3, 4, 4, 3, 2, 1, 1], [1, 2, 3, 4, 5, 6, 1, 3])
    return [StringWorld(row, max(row)) for row in labels]


def table_worlds():
    return [TableWorld(first, second) for first, second in untied_tables(range(1))]


def base_worlds():
    return [BaseWorld(orders, matrix) for orders, matrix in some_pairs(range(1))]


def share_worlds():
    return [ShareWorld(*given) for given in all_parties(seeds=range(1))] + [ShareWorld(*RING)]


def lot_worlds():
    books = [square_book(), some_even_book(1, 6, 2), some_even_book(2, 9, 3), some_even_book(1, 8, 4), Book(5, 5, []), Book(4, 2, [])]
    return [LotWorld(book, order) for book in books for order in ("next", "ends", "far")]


def all_worlds():
    return (plain_worlds() + label_worlds() + string_worlds() + table_worlds() + base_worlds() + share_worlds() + lot_worlds())


class Kinds(Case):
    def test_130_all_are_worlds_with_the_same_methods_and_fields(self):
        for kind, base in ((LabelWorld, World), (StringWorld, LabelWorld), (TableWorld, World), (BaseWorld, World),
                           (ShareWorld, BaseWorld), (LotWorld, World)):
            self.assertEqual(kind.__bases__, (base,))
            for name in METHODS:
                self.assertTrue(callable(getattr(kind, name)))
        for world in all_worlds():
            self.assertIsInstance(world.family, Family)
            self.assertTrue(world.start is None or type(world.start) is tuple)

    def test_130_families_and_starts(self):
        book, labels = some_even_book(1, 6, 3), some_labels(6, 3)
        for world, family, start in ((LabelWorld(book, labels), label_family(book, labels), None),
                                     (StringWorld([1, 2, 1, 2, 2], 2), label_family(ring_book(5, 2), [1, 2, 1, 2, 2]), None),
                                     (TableWorld(FIRST, SECOND), table_family(FIRST, SECOND), start_row(FIRST, SECOND)),
                                     (ShareWorld(*RING), share_family(*RING), ((3, 4, 5), (0, 1, 2))),
                                     (LotWorld(book), lot_family(book), None), (World(squares()), squares(), None),
                                     (World(squares(), [(0, 1), (2, 3)]), squares(), ((0, 1), (2, 3)))):
            self.assertEqual((world.family, world.start), (family, start))
        for orders, matrix in some_pairs(range(1)):
            many, things = len(orders), len(orders[0])
            world = BaseWorld(orders, matrix)
            self.assertEqual(world.family, base_family(orders, matrix))
            self.assertEqual(world.start, (tuple(range(things, things + many)), tuple(range(things))))

    def test_127_even_without_a_start_and_odd_with_one(self):
        seen = set()
        for world in all_worlds():
            number = world.number()
            self.assertEqual(number % 2, 0 if world.start is None else 1)
            self.assertEqual(number, len(world.things()))
            seen.add((world.start is None, number > 1))
        self.assertEqual(seen, {(True, True), (True, False), (False, True), (False, False)})

    def test_127_one_thing_for_each_partition_but_the_start(self):
        for world in all_worlds():
            rows = [row for row in list_partitions(world.family) if row != world.start]
            told = [world.thing_of(row) for row in rows]
            self.assertEqual([world.thing_of(list(row)) for row in rows], told)
            self.assertEqual(sorted(set(told)), sorted(world.things()))
            if not isinstance(world, LotWorld):
                self.assertEqual(told, world.things())
                self.assertEqual(len(set(told)), len(told))
                self.assertEqual([world.row_of(thing) for thing in told], rows)

    def test_128_rows_that_are_no_partition_ahead_of_the_start(self):
        for world in all_worlds():
            for fault, row in (("count", ()), ("room", ((),) * len(world.family)), ("room", ((-1,),) * len(world.family)),
                               ("count", ((0,),) * (len(world.family) + 1))):
                self.assertFails(NotAPartition(fault), world.thing_of, row)
                self.assertFails(NotAPartition(fault), world.thing_of, list(row))
            if world.start is not None:
                self.assertFails(NotAPartition("start"), world.thing_of, world.start)
                self.assertFails(NotAPartition("start"), world.thing_of, list(world.start))
        self.assertFails(NotAPartition("place"), World(squares(), ((0, 1), (2, 3))).thing_of, ((0, 1), (0, 1)))

    def test_129_the_other_end_of_each_path(self):
        for world in all_worlds():
            if isinstance(world, LotWorld):
                continue
            for thing in world.things()[:20]:
                for target in range(world.family.places):
                    row = order_path(world.family, world.row_of(thing), target)[-1]
                    told = world.other(thing, target)
                    self.assertEqual(told, None if row == world.start else world.thing_of(row))
                    self.assertEqual(world.other(thing, target=target), told)
                    if told is None:
                        self.assertEqual(world.from_start(target), thing)
                    else:
                        self.assertEqual(world.other(told, target), thing)

    def test_129_from_the_start(self):
        for world in all_worlds():
            for target in range(world.family.places):
                if world.start is None:
                    self.assertFails(Mismatch("start"), world.from_start, target)
                else:
                    self.assertEqual(world.row_of(world.from_start(target)), order_path(world.family, world.start, target)[-1])
                    self.assertIsNone(world.other(world.from_start(target), target))

    def test_129_matched_things(self):
        for world in all_worlds():
            things = world.things()
            for target in range(world.family.places)[::2]:
                pairs = world.matched(target)
                self.assertEqual(sorted(thing for pair in pairs for thing in pair if thing is not None), sorted(things))
                self.assertEqual(sum(None in pair for pair in pairs), 0 if world.start is None else 1)
                # In the order of the things, each pair stands where the first one of its things comes.
                left, told = list(things), []
                while left:
                    other = world.other(left[0], target)
                    told.append((left[0], other))
                    left = [thing for thing in left if thing not in (left[0], other)]
                self.assertEqual(pairs, told)
                self.assertTrue(all(type(pair) is tuple for pair in pairs))

    def test_129_targets_outside(self):
        for world in all_worlds():
            things = world.things()
            for target in (-1, world.family.places, 10 ** 40):
                if things:
                    self.assertFails(Mismatch("target"), world.other, things[0], target)
                    self.assertFails(Mismatch("target"), world.matched, target)
                else:
                    self.assertEqual(world.matched(target), [])
                error = Mismatch("start" if world.start is None else "target")
                self.assertFails(error, world.from_start, target)

    def test_128_no_things_ahead_of_targets_outside(self):
        for world in all_worlds():
            things = world.things()
            wrong = [thing for thing in self.no_things(world) if thing not in things]
            self.assertGreater(len(wrong), 4)
            for thing in wrong:
                self.assertFails(NotAPartition("thing"), world.row_of, thing)
                for target in (-1, 0, 99):
                    self.assertFails(NotAPartition("thing"), world.other, thing, target)

    def no_things(self, world):
        """Arguments of the form of a thing that are none."""
        if isinstance(world, TableWorld):
            rows, columns = len(world.start[0]), len(world.start[1])
            pairs = [((0,) * rows, (0,) * columns), ((1,) * rows, (1,)), ((), (1,) * columns), ((), ()), ((1,) * (rows + 1), (1,) * columns),
                     ((-1,) * rows, (1,) * columns), ((2,) + (0,) * (rows - 1), (2,) + (0,) * (columns - 1))]
            return pairs + [(tuple(3 * number for number in weights), others) for weights, others in world.things()[:3]] + [
                (weights, tuple(2 * number for number in others)) for weights, others in world.things()[:3]]
        if isinstance(world, (LabelWorld, BaseWorld)):
            things = world.things()[:4]
            rooms = [(), (0,) * 9, tuple(range(world.family.places)), (-1, 0), (world.family.places,), (10 ** 40,), (0, 99)]
            rooms += [thing[::-1] for thing in things if len(thing) > 1] + [thing[:-1] for thing in things] + [thing + (99,) for thing in things]
            rooms += [thing + thing for thing in things]
            return rooms + ([world.start[0]] if world.start else [])
        things = [world.row_of(thing) for thing in world.things()[:4]]
        rows = [(), ((),), ((0, 99),), ((0, 1), (1, 0)), (((-1,),) * len(world.family))]
        rows += [row[:-1] for row in things] + [row + row[:1] for row in things] + [(row[0][::-1],) + row[1:] for row in things if len(row[0]) > 1]
        if isinstance(world, LotWorld):
            rows += [row[::-1] for row in things if len(row) > 1]
        return rows + ([world.start] if world.start else [])

    def test_1_returned_lists_are_new(self):
        for world in all_worlds():
            told = world.things(), world.matched(0)
            for found in (world.things(), world.matched(0)):
                found.clear()
                found.append("changed")
            self.assertEqual((world.things(), world.matched(0)), told)


class Plain(Case):
    def test_130_the_things_are_the_partitions(self):
        for world in plain_worlds():
            rows = [row for row in partitions_of(world.family) if row != world.start]
            self.assertEqual(world.things(), rows)
            for row in rows:
                self.assertEqual((world.thing_of(row), world.row_of(row)), (row, row))

    def test_128_the_start_is_no_thing(self):
        for world in plain_worlds():
            if world.start is not None:
                self.assertFails(NotAPartition("thing"), world.row_of, world.start)
                self.assertNotIn(world.start, world.things())

    def test_127_a_start_that_is_no_partition(self):
        for fault, row in (("count", ()), ("count", ((0, 1),)), ("room", ((0, 1), (3, 2))), ("room", ((0, 2), (1, 3))), ("place", ((0, 1), (1, 2)))):
            self.assertFails(NotAPartition(fault), World, squares(), row)
            self.assertFails(NotAPartition(fault), World, squares(), list(row))
            self.assertFails(NotAPartition(fault), World, squares(), start=row)

    def test_127_families_without_partitions(self):
        world = World(Family([Book(3, 3, [])]))
        self.assertEqual((world.number(), world.things(), world.matched(0), world.matched(-5)), (0, [], [], []))
        self.assertFails(NotAPartition("room"), World, Family([Book(3, 3, [])]), ((0, 1, 2),))
        self.assertFails(NotAPartition("thing"), world.row_of, ((0, 1, 2),))

    def test_128_too_many_partitions(self):
        for world in (World(ones(8)), World(ones(8), tuple((place,) for place in range(8)))):
            self.assertFails(TooMany("partitions", 5000), world.things)
            self.assertFails(TooMany("partitions", 5000), world.matched, 0)
            self.assertFails(TooMany("partitions", 5000), world.matched, -1)
        self.assertEqual(World(ones(8)).number(), 40320)
        self.assertEqual(World(ones(8), tuple((place,) for place in range(8))).number(), 40319)
        # Any partition may be asked for, also where there are too many of them to list.
        row = tuple((place,) for place in range(8))
        self.assertEqual(World(ones(8)).other(row, 3), mate(ones(8), row, 3))

    def test_1_later_changes_of_arguments(self):
        row = [(0, 1), (2, 3)]
        world = World(squares(), row)
        row.clear()
        self.assertEqual(world.start, ((0, 1), (2, 3)))


class Labels(Case):
    def test_130_the_things_are_the_full_rooms(self):
        for places, size in ((4, 2), (6, 3), (7, 2), (5, 1), (8, 4)):
            for seed in range(2):
                book, labels = some_even_book(seed, places, size), some_labels(places, size)
                world = LabelWorld(book, tuple(labels))
                self.assertEqual(world.things(), full_rooms(book, labels))
                for room in world.things():
                    self.assertEqual(world.row_of(room), (room, complement(places, room)))
                    for target in range(places):
                        self.assertEqual(world.other(room, target), another_full(book, labels, room, target))

    def test_128_rooms_of_the_book_that_are_not_full(self):
        world = LabelWorld(all_rooms(5, 2), [1, 2, 1, 2, 2])
        self.assertEqual(len(world.things()), 6)
        for room in ((0, 2), (1, 3), (3, 4)):
            self.assertFails(NotAPartition("thing"), world.row_of, room)
        self.assertEqual(world.row_of((1, 2)), ((1, 2), (0, 3, 4)))

    def test_130_errors_as_label_family(self):
        for book, labels, error in ((square_book(), [1, 2], BadLabels("count", 2)), (square_book(), [1, 2, 3, 1], BadLabels("label", 2)),
                                    (square_book(), [1, 1, 1, 1], BadLabels("unused", 2)), (Book(3, 3, []), [1, 2, 3], BadLabels("kinds", 3)),
                                    (Book(4, 2, [(0, 1)]), [1, 2, 1, 2], NotEven(0, (0,)))):
            self.assertFails(error, LabelWorld, book, labels)
            self.assertFails(error, label_family, book, labels)

    def test_1_later_changes_of_arguments(self):
        labels = [1, 2, 1, 2]
        world, ring = LabelWorld(square_book(), labels), StringWorld(labels, 2)
        told = world.things(), ring.things(), world.matched(1), ring.matched(1)
        labels[:] = [2, 2, 2, 1]
        self.assertEqual((world.things(), ring.things(), world.matched(1), ring.matched(1)), told)

    def test_130_too_many_full_rooms_are_not_possible_but_partitions_are_counted(self):
        world = LabelWorld(all_rooms(12, 5), some_labels(12, 5))
        self.assertEqual(world.number(), 3 * 3 * 2 * 2 * 2)
        self.assertEqual(len(world.matched(0)), 36)


class Strings(Case):
    def test_130_the_things_are_the_pairings_in_the_order_of_their_strings(self):
        unlike = 0
        for labels in ([1, 2, 1, 2], [1, 2, 1, 2, 2], [1, 2, 3, 4, 1, 2, 3], [1, 2, 3, 4, 4, 3, 2, 1, 1], [1, 2, 3, 4, 5, 6, 1, 3, 2]):
            world, kinds = StringWorld(labels, max(labels)), max(labels)
            strings = full_strings(labels, kinds)
            self.assertEqual(world.things(), [string_names(len(labels), room) for room in strings])
            self.assertEqual(sorted(world.things()), web_pairings(label_web(labels), kinds))
            unlike += sorted(world.things()) != world.things()
            for names, room in zip(world.things(), strings):
                self.assertEqual(world.row_of(names), (room, complement(len(labels), room)))
                self.assertEqual(world.thing_of((room, complement(len(labels), room))), names)
                for target in range(len(labels)):
                    self.assertEqual(world.other(names, target), another_pairing(labels, kinds, names, target))
        self.assertGreater(unlike, 0)

    def test_128_every_row_of_names(self):
        labels = [1, 2, 3, 4, 4, 3, 2, 1, 1]
        world = StringWorld(labels, 4)
        things = world.things()
        for many in range(4):
            for names in itertools.product(range(-1, 11), repeat=many):
                if names in things:
                    self.assertEqual(world.thing_of(world.row_of(names)), names)
                else:
                    self.assertFails(NotAPartition("thing"), world.row_of, names)

    def test_128_names_that_share_a_place_and_names_that_do_not_ascend(self):
        world = StringWorld([1, 2, 3, 4, 1, 2, 3], 4)
        names = world.things()[0]
        for wrong in (names[::-1], (0, 1), (0, 6), (6, 0), (0, 0), (3, 3), (-1, 2), (5, 7), names + names):
            self.assertFails(NotAPartition("thing"), world.row_of, wrong)
            self.assertFails(NotAPartition("thing"), world.other, wrong, -1)

    def test_130_errors_as_ring_book_and_then_as_label_family(self):
        for labels, kinds, error in (([1, 2, 1], 3, Mismatch("size")), ([1, 2, 1, 9], 0, Mismatch("size")), ([1, 2], 2, Mismatch("size")),
                                     ([], 2, Mismatch("size")), ([1] * 13, 2, BadBook("places", 0)), ([9] * 13, 3, Mismatch("size")),
                                     ([1, 2, 3, 1], 2, BadLabels("label", 2)), ([1, 1, 1], 2, BadLabels("unused", 2)),
                                     ([1, 1, 4, 4, 4], 4, BadLabels("unused", 2))):
            self.assertFails(error, StringWorld, labels, kinds)
            self.assertFails(error, StringWorld, tuple(labels), kinds)


class Tables(Case):
    def test_130_the_things_are_the_rests(self):
        for first, second in untied_tables(range(1)):
            world = TableWorld(tuple(map(tuple, first)), second)
            rows = [row for row in list_partitions(table_family(first, second)) if row != start_row(first, second)]
            self.assertEqual(world.things(), [rest_of_row(first, second, row) for row in rows])
            self.assertEqual(sorted(world.things()), list_rests(first, second))
            for target in range(0, world.family.places, 3):
                self.assertEqual(world.from_start(target), rest_from_start(first, second, target))
                for rest in world.things()[:4]:
                    self.assertEqual(world.other(rest, target), rest_mate(first, second, rest, target))

    def test_130_the_example(self):
        world = TableWorld(FIRST, SECOND)
        self.assertEqual(sorted(world.things()), RESTS)
        self.assertEqual(world.row_of(RESTS[2]), ((2, 3), (0, 1)))
        self.assertEqual(world.thing_of(((2, 3), (0, 1))), RESTS[2])
        self.assertEqual(world.number(), 3)

    def test_128_rests_in_higher_terms(self):
        world = TableWorld(FIRST, SECOND)
        for rest in (((4, 2), (1, 2)), ((2, 1), (2, 4)), ((0, 2), (0, 1)), ((0, 1), (0, 10 ** 40)), ((1, 2), (1, 2)), ((2, 1), (1, 2, 0)),
                     ((2,), (1, 2)), ((-2, -1), (-1, -2)), ((0, 0), (0, 0))):
            self.assertFails(NotAPartition("thing"), world.row_of, rest)
            for target in (0, -1, 4):
                self.assertFails(NotAPartition("thing"), world.other, rest, target)

    def test_130_errors_as_table_family(self):
        for tables, tight in ((ROW_TIE, (0, 2, 3)), (COLUMN_TIE, (0, 1, 2)), (BOTH_TIES, (0, 2, 3))):
            self.assertFails(Tied(tight), TableWorld, *tables)
        for error, first, second in ((BadTable("rows", 0, 0), [], []), (BadTable("columns", 1, 0), [[1], []], [[1]]),
                                     (BadTable("shape", 1, 0), FIRST, [[1]]), (BadTable("entry", 1, 0), [[1, 1], [0, 1]], [[0, 0], [0, 0]])):
            self.assertFails(error, TableWorld, first, second)

    def test_1_later_changes_of_arguments(self):
        first, second = [list(row) for row in FIRST], [list(row) for row in SECOND]
        world = TableWorld(first, second)
        told = world.things(), [world.row_of(rest) for rest in RESTS], world.matched(2)
        first[0][0], second[1][1] = 99, 1
        first.append([1, 1])
        self.assertEqual((world.things(), [world.row_of(rest) for rest in RESTS], world.matched(2)), told)


class Bases(Case):
    def test_130_the_things_are_the_unbeaten_bases(self):
        for orders, matrix in some_pairs():
            world = BaseWorld(tuple(map(tuple, orders)), matrix)
            self.assertEqual(world.things(), unbeaten_bases(orders, matrix))
            for room in world.things():
                self.assertEqual(world.row_of(room), (room, complement(world.family.places, room)))
            for target in range(0, world.family.places, 3):
                self.assertEqual(world.from_start(target), base_path(orders, matrix, target)[-1][0])

    def test_131_shares(self):
        for given in all_parties(seeds=range(1)) + [RING]:
            world = ShareWorld(*given)
            for target in range(0, world.family.places, 3):
                self.assertEqual(world.shares_of(world.from_start(target)), stable_shares(*given, target))
            for thing in world.things():
                numerators, denominator = world.shares_of(thing)
                self.assertEqual((type(numerators), len(numerators), denominator >= 1), (tuple, len(given[1]), True))
        self.assertEqual([ShareWorld(*RING).shares_of(thing) for thing in ShareWorld(*RING).things()],
                         [((1, 1, 1), 2)] * ShareWorld(*RING).number())

    def test_131_different_bases_with_equal_shares(self):
        world = ShareWorld(4, [(0, 1, 3), (0, 3), (0, 1)], [[0, 1, 2], [2, 0], [], [1, 0]])
        self.assertEqual(world.things(), [(0, 1, 2, 5), (0, 2, 3, 5), (1, 2, 5, 6)])
        self.assertEqual([world.shares_of(thing) for thing in world.things()],
                         [((1, 0, 0), 1), ((1, 0, 0), 1), ((0, 0, 1), 1)])

    def test_131_shares_of_what_is_no_thing(self):
        world = ShareWorld(*RING)
        room = world.things()[0]
        for wrong in ((), room[::-1], room[:-1], room + (9,), (3, 4, 5), (-1, 0, 1), (0, 0, 1), (0, 1, 99)):
            self.assertFails(NotAPartition("thing"), world.shares_of, wrong)

    def test_130_errors_as_base_family_and_share_family(self):
        self.assertFails(BadOrders("count", 0), BaseWorld, [], [])
        self.assertFails(BadOrders("order", 1), BaseWorld, [[0, 1], [1, 1]], [[-1]])
        self.assertFails(BadBounds("zero", 0), BaseWorld, [[0]], [[0]])
        self.assertFails(Mismatch("sizes"), BaseWorld, [[0]], [[1, 1]])
        self.assertFails(BadParties("persons", 5), ShareWorld, 5, [], [])
        self.assertFails(BadParties("party", 1), ShareWorld, 2, [(0,), (1, 0)], [])
        self.assertFails(BadParties("wishes", 1), ShareWorld, 2, [(0,)], [[0]])

    def test_1_later_changes_of_arguments(self):
        parties, wishes = list(RING[1]), [list(listed) for listed in RING[2]]
        world = ShareWorld(3, parties, wishes)
        orders, matrix = [[0, 1, 2], [2, 1, 0]], [[1, 1, 0], [0, 1, 1]]
        base = BaseWorld(orders, matrix)
        told = world.things(), world.matched(0), base.things(), base.matched(4)
        shares = [world.shares_of(thing) for thing in world.things()]
        for changed in (parties, wishes[0], wishes, orders[0], orders, matrix[1], matrix):
            changed.clear()
        self.assertEqual((world.things(), world.matched(0), base.things(), base.matched(4)), told)
        self.assertEqual([world.shares_of(thing) for thing in world.things()], shares)


class Lots(Case):
    BOOKS = (square_book(), some_even_book(1, 6, 2), some_even_book(2, 9, 3), some_even_book(1, 8, 4), all_rooms(6, 3))

    def test_130_the_things_are_the_lots(self):
        for book in self.BOOKS:
            for order in ("next", "ends", "far"):
                world = LotWorld(book, order)
                self.assertEqual(world.things(), lots_of(book))
                self.assertEqual(world.number(), len(lots_of(book)))
                for target in range(book.places):
                    pairs = world.matched(target)
                    self.assertEqual(sorted(tuple(sorted(pair)) for pair in pairs), lot_pairs(book, target, order))
                    for lot in world.things()[:10]:
                        self.assertEqual(world.other(lot, target), lot_mate(book, lot, target, order))
            self.assertEqual(LotWorld(book).matched(0), LotWorld(book, order="next").matched(0))

    def test_130_the_order_matters(self):
        seen = {LotWorld(book, order).matched(target) == LotWorld(book).matched(target)
                for book in self.BOOKS for order in ("ends", "far") for target in range(book.places)}
        self.assertEqual(seen, {True, False})

    def test_128_rows_with_the_same_rooms_in_another_order(self):
        for book in self.BOOKS:
            world = LotWorld(book)
            for lot in world.things()[:10]:
                self.assertEqual(world.row_of(lot), lot)
                for row in itertools.permutations(lot):
                    self.assertEqual(world.thing_of(row), lot)
                    self.assertEqual(world.thing_of(list(row)), lot)
                    if row != lot:
                        self.assertFails(NotAPartition("thing"), world.row_of, row)
                        self.assertFails(NotAPartition("thing"), world.other, row, -1)

    def test_128_too_many_lots(self):
        world = LotWorld(all_rooms(12, 3))
        self.assertEqual(world.number(), 15400)
        self.assertFails(TooMany("lots", 5000), world.things)
        self.assertFails(TooMany("lots", 5000), world.matched, 0)
        self.assertFails(TooMany("lots", 5000), world.matched, 12)
        lot = ((0, 1, 2), (3, 4, 5), (6, 7, 8), (9, 10, 11))
        self.assertEqual(world.other(lot, 4), lot_mate(all_rooms(12, 3), lot, 4))

    def test_128_more_than_5000_partitions_but_fewer_lots(self):
        book = some_even_book(1, 12, 2)
        self.assertEqual(LotWorld(book).things(), list_lots(book))
        self.assertFails(TooMany("partitions", 5000), World(lot_family(book)).things)

    def test_130_errors_as_lot_family_and_then_as_rule(self):
        for order in ("", "Next"):
            self.assertFails(BadFamily("lots", 3), LotWorld, Book(4, 3, []), order)
            self.assertFails(BadFamily("lots", 1), LotWorld, Book(4, 1, []), order)
            self.assertFails(NotEven(0, (0,)), LotWorld, Book(4, 2, [(0, 1)]), order)
            self.assertFails(BadRule("order", ()), LotWorld, square_book(), order)
            self.assertFails(BadRule("order", ()), LotWorld, Book(4, 2, []), order=order)
