"""Points 28 (runs) and 79 to 83."""

import itertools
import random

from neveralone.errors import BadBook, BadLabels, Mismatch, NotARoom
from neveralone.labels import another_full, full_rooms
from neveralone.makers import ring_book
from neveralone.strings import (another_pairing, another_string, full_strings, label_web, runs, string_names,
                                string_room, web_pairings)
from tests.support import Case, rooms_over


def all_rooms_of(places):
    return [room for size in range(places + 1) for room in rooms_over(places, size)]


def plain_runs(places, room):
    """The runs: all rows of places that follow one another, from one whose forerunner is not in the room."""
    if len(room) == places:
        return [room]
    found = []
    for first in room:
        if (first - 1) % places not in room:
            ring = [(first + k) % places for k in range(places)]
            found.append(tuple(itertools.takewhile(lambda place: place in room, ring)))
    return found


def some_labels(seed, places, kinds):
    chance = random.Random(f"{seed} {places} {kinds}")
    labels = list(range(1, kinds + 1)) + [chance.randint(1, kinds) for _ in range(places - kinds)]
    chance.shuffle(labels)
    return labels


class Runs(Case):
    def test_79_the_example(self):
        self.assertEqual(runs(7, (0, 1, 3, 6)), [(3,), (6, 0, 1)])

    def test_79_all_rooms(self):
        for places in range(1, 9):
            for room in all_rooms_of(places):
                found = runs(places, room)
                self.assertEqual(found, plain_runs(places, room))
                self.assertEqual(sorted(itertools.chain(*found)), list(room))
                self.assertTrue(all(type(run) is tuple for run in found))

    def test_79_the_room_of_all_places_and_the_empty_room(self):
        for places in range(1, 13):
            self.assertEqual(runs(places, tuple(range(places))), [tuple(range(places))])
            self.assertEqual(runs(places, ()), [])
        self.assertEqual(runs(12, (0, 10, 11)), [(10, 11, 0)])

    def test_28_79_ring_books_have_the_rooms_whose_runs_are_even(self):
        for places, size in ((5, 2), (7, 4), (8, 6)):
            rooms = [room for room in rooms_over(places, size) if all(len(run) % 2 == 0 for run in runs(places, room))]
            self.assertEqual(list(ring_book(places, size).rooms), rooms)


class Names(Case):
    def test_80_names_and_rooms(self):
        for places in range(1, 9):
            for room in all_rooms_of(places):
                cut = plain_runs(places, room)
                if any(len(run) % 2 for run in cut):
                    self.assertFails(Mismatch("run"), string_names, places, room)
                else:
                    names = string_names(places, room)
                    self.assertEqual(names, tuple(sorted(place for run in cut for place in run[::2])))
                    self.assertEqual(string_room(places, names), room)
                    self.assertEqual(string_room(places, list(names[::-1])), room)

    def test_80_examples(self):
        self.assertEqual(string_names(7, (0, 2, 3, 6)), (2, 6))
        self.assertEqual(string_names(6, (0, 1, 2, 3, 4, 5)), (0, 2, 4))
        self.assertEqual((string_names(4, ()), string_room(4, ()), string_room(4, [])), ((), (), ()))
        self.assertEqual(string_names(2, (0, 1)), (0,))
        self.assertEqual(string_room(6, (5, 1, 3)), (0, 1, 2, 3, 4, 5))
        self.assertEqual(string_room(7, [6, 2]), (0, 2, 3, 6))
        self.assertEqual(string_room(2, (1,)), (0, 1))

    def test_80_runs_of_odd_length(self):
        for places, room in ((5, (0,)), (5, (0, 1, 2, 3, 4)), (7, (0, 1, 3, 6)), (6, (0, 1, 3)), (1, (0,)), (4, (0, 1, 3))):
            self.assertFails(Mismatch("run"), string_names, places, room)

    def test_80_names_that_meet(self):
        for places, names in ((5, (0, 1)), (5, [4, 0]), (6, (2, 2)), (5, (3, 0, 4)), (2, (0, 1)), (1, (0,)), (3, (0, 2)),
                              (4, (0, 2, 1)), (1, [0, 0])):
            self.assertFails(Mismatch("names"), string_room, places, names)
        for places in range(2, 7):
            for names in all_rooms_of(places):
                covered = [place % places for name in names for place in (name, name + 1)]
                if len(set(covered)) < len(covered):
                    self.assertFails(Mismatch("names"), string_room, places, names)
                else:
                    self.assertEqual(string_room(places, names), tuple(sorted(covered)))


class Webs(Case):
    def test_81_label_webs(self):
        self.assertEqual(label_web([1, 2, 2, 3]), [(1, 2), (2, 2), (2, 3), (3, 1)])
        self.assertEqual(label_web((4,)), [(4, 4)])
        self.assertEqual(label_web((1, 2)), [(1, 2), (2, 1)])

    def test_81_all_pairings(self):
        seen = 0
        for seed in range(60):
            chance = random.Random(seed)
            kinds = chance.randint(1, 6)
            ties = [(chance.randint(1, kinds), chance.randint(1, kinds)) for _ in range(chance.randint(1, 9))]
            found = [row for size in range(len(ties) + 1) for row in itertools.combinations(range(len(ties)), size)
                     if sorted(itertools.chain(*[ties[at] for at in row])) == list(range(1, kinds + 1))]
            self.assertEqual(web_pairings(ties, kinds), sorted(found))
            self.assertEqual(web_pairings(tuple(ties), kinds), sorted(found))
            seen += len(found)
        self.assertGreater(seen, 20)

    def test_81_ties_with_two_equal_ends_and_kinds_without_a_tie(self):
        self.assertEqual(web_pairings([(1, 2), (2, 2), (1, 1), (2, 1)], 2), [(0,), (3,)])
        self.assertEqual(web_pairings([(1, 1)], 1), [])
        self.assertEqual(web_pairings([(1, 2), (1, 2)], 4), [])
        self.assertEqual(web_pairings([], 2), [])
        self.assertEqual(web_pairings([(1, 2), (2, 3), (3, 1)], 3), [])
        self.assertEqual(web_pairings([(1, 2), (3, 4), (2, 3), (4, 1), (4, 3)], 4), [(0, 1), (0, 4), (2, 3)])

    def test_81_twelve_ties(self):
        ties = label_web([1, 2, 3, 4] * 3)
        self.assertEqual(web_pairings(ties, 4), sorted((first, second) for first, second in
                                                       itertools.combinations(range(12), 2)
                                                       if sorted(ties[first] + ties[second]) == [1, 2, 3, 4]))
        self.assertEqual(len(web_pairings([(k, k + 1) for k in range(1, 12)] + [(12, 1)], 12)), 2)


class Strings(Case):
    def test_82_full_strings_are_the_pairings_of_the_label_web(self):
        seen = 0
        for places in range(3, 10):
            for kinds in range(2, places, 2):
                for seed in range(4):
                    labels = some_labels(seed, places, kinds)
                    full = full_strings(labels, kinds)
                    self.assertEqual(full, full_rooms(ring_book(places, kinds), labels))
                    self.assertEqual(sorted(string_names(places, room) for room in full),
                                     web_pairings(label_web(labels), kinds))
                    self.assertEqual(len(full) % 2, 0)
                    seen += len(full)
        self.assertGreater(seen, 100)

    def test_82_errors_in_their_order(self):
        for kinds in (1, 3, 4, 0, -2, 6):
            self.assertFails(Mismatch("size"), full_strings, [9, 9, 9, 9], kinds)
            self.assertFails(Mismatch("size"), another_string, [9, 9, 9, 9], kinds, (9,), 9)
        self.assertFails(BadBook("places", 0), full_strings, [9] * 13, 2)
        self.assertFails(BadLabels("label", 1), full_strings, (1, 3, 2, 0), 2)
        self.assertEqual(full_strings([1, 1, 1, 1], 2), [])

    def test_83_another_string_and_another_pairing(self):
        seen = 0
        for places in range(3, 9):
            for kinds in range(2, places, 2):
                labels = some_labels(1, places, kinds)
                for room, target in itertools.product(full_strings(labels, kinds), range(places)):
                    other = another_string(labels, kinds, room, target)
                    self.assertEqual(other, another_full(ring_book(places, kinds), labels, room, target))
                    self.assertNotEqual(other, room)
                    self.assertEqual(another_string(tuple(labels), kinds, other, target), room)
                    names = string_names(places, room)
                    found = another_pairing(labels, kinds, list(names[::-1]), target)
                    self.assertEqual(found, string_names(places, other))
                    self.assertIn(found, web_pairings(label_web(labels), kinds))
                    seen += 1
        self.assertGreater(seen, 50)

    def test_83_errors_of_another_string_in_their_order(self):
        labels = [1, 2, 1, 2, 2]
        self.assertFails(BadLabels("label", 0), another_string, [0, 1, 1, 1, 9], 2, (9,), 9)
        self.assertFails(BadLabels("unused", 2), another_string, [1, 1, 1, 1, 1], 2, (9,), 9)
        for room in ((3, 4), (0, 2), (1, 0), ()):
            self.assertFails(NotARoom(room), another_string, labels, 2, room, 9)
        for target in (-1, 5):
            self.assertFails(Mismatch("target"), another_string, labels, 2, (0, 1), target)

    def test_83_errors_of_another_pairing_in_their_order(self):
        labels = [1, 2, 1, 2, 2]
        self.assertFails(Mismatch("names"), another_pairing, labels, 3, (0, 1), 9)
        self.assertFails(Mismatch("size"), another_pairing, labels, 3, (0,), 9)
        self.assertFails(BadLabels("label", 4), another_pairing, [1, 2, 1, 2, 3], 2, (0,), 9)
        self.assertFails(BadLabels("unused", 2), another_pairing, [1, 1, 1, 1, 1], 2, (0,), 9)
        self.assertFails(NotARoom((3, 4)), another_pairing, labels, 2, (3,), 9)
        self.assertFails(NotARoom(()), another_pairing, labels, 2, (), 9)
        self.assertFails(Mismatch("target"), another_pairing, labels, 2, (0,), 5)
