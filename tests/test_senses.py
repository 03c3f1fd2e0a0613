"""Points 14 (for sense rules) and 69 to 71."""

import itertools

from neveralone.balance import partition_sign, signed_family
from neveralone.books import face_table
from neveralone.chains import Chain
from neveralone.errors import BadBook, BadFamily, Mismatch, NotAPartition, NotARoom, NotSigned, TooMany
from neveralone.made_signs import ring_chain
from neveralone.paths import mate, walk_path
from neveralone.rules import Rule
from neveralone.senses import SenseRule, reading_sign, sense_at, unlike_pairs, walk_signs
from tests.support import Case, all_signed, near_of, partitions_of, plain_path, sign, sign_in, some_signed

SHAPES = ((2, 2), (1, 1, 1), (1, 2, 3), (3, 3), (2, 2, 2), (1, 1, 2, 2))
WIDE = Chain(6, 1, [((0,), 1), ((1,), 1), ((2,), -1), ((3,), 1), ((4,), -1), ((5,), -1)])
UNSIGNED = Chain(4, 2, [((0, 1), 1)])
RINGS = [ring_chain(4, 2)] * 2


def plain_sense(chain, face, room):
    left, = set(room) - set(face)
    return dict(chain.terms)[room] * (-1) ** room.index(left)


def plain_partner(chain, face, room):
    """The partner by the senses, found by counting."""
    rooms = [other for other in dict(chain.terms) if set(face) < set(other)]
    sense = plain_sense(chain, face, room)
    mine = [other for other in rooms if plain_sense(chain, face, other) == sense]
    theirs = [other for other in rooms if plain_sense(chain, face, other) == -sense]
    return theirs[mine.index(room)]


def plain_reading(chains, row, target, came):
    places = list(itertools.chain(*row))
    double, = {place for place in places if places.count(place) == 2}
    told = [[target if at == came and place == double else place for place in room] for at, room in enumerate(row)]
    product = sign(list(itertools.chain(*told)))
    for chain, room in zip(chains, row):
        product *= dict(chain.terms)[room]
    return product


class Senses(Case):
    def test_69_senses_at_all_faces(self):
        for places, degree in ((5, 1), (5, 2), (6, 3), (7, 4)):
            for seed in range(3):
                chain = some_signed(seed, places, degree)
                for face, rooms in face_table(chain.odd_book()).items():
                    senses = [sense_at(chain, face, room) for room in rooms]
                    self.assertEqual(senses, [plain_sense(chain, face, room) for room in rooms])
                    self.assertEqual([sense_at(-chain, face, room) for room in rooms], [-sense for sense in senses])
                    self.assertEqual(sum(senses), 0)

    def test_69_any_coefficients(self):
        chain = Chain(5, 3, [((0, 2, 4), 10 ** 30), ((1, 2, 3), -7)])
        self.assertEqual(sense_at(chain, (2, 4), (0, 2, 4)), 10 ** 30)
        self.assertEqual(sense_at(chain, (0, 4), (0, 2, 4)), -10 ** 30)
        self.assertEqual(sense_at(chain, (0, 2), (0, 2, 4)), 10 ** 30)
        self.assertEqual(sense_at(chain, (1, 3), (1, 2, 3)), 7)
        self.assertEqual(sense_at(Chain(3, 1, [((1,), 4)]), (), (1,)), 4)

    def test_69_rooms_without_a_term_and_rooms_that_do_not_have_the_face(self):
        ring = ring_chain(4, 2)
        for face, room in (((0,), (0, 2)), ((0,), (0, 1, 2)), ((), ()), ((0,), (0,)), ((2,), (0, 1)), ((0, 1), (0, 1)),
                           ((), (0, 1)), ((1, 0), (0, 1)), ((9,), (0, 9)), ((0,), (0, 9))):
            self.assertFails(NotARoom(room), sense_at, ring, face, room)
        self.assertFails(NotARoom((0,)), sense_at, Chain(3, 1, []), (), (0,))
        self.assertFails(NotARoom(()), sense_at, Chain(3, 0, [((), 1)]), (), ())


class SenseRules(Case):
    def test_69_pairs_of_unlike_senses(self):
        wide = 0
        for places, degree in ((6, 1), (5, 2), (6, 3), (7, 4)):
            for seed in range(4):
                for chain in (some_signed(seed, places, degree), -some_signed(seed, places, degree)):
                    rule, triples = SenseRule(chain), []
                    self.assertIsInstance(rule, Rule)
                    self.assertEqual((rule.book, rule.chain), (chain.odd_book(), chain))
                    for face, rooms in face_table(chain.odd_book()).items():
                        wide += len(rooms) > 2
                        for room in rooms:
                            partner = plain_partner(chain, face, room)
                            self.assertEqual(rule(face, room), partner)
                            triples.append((face, min(room, partner), max(room, partner)))
                    self.assertEqual(rule.pairs(), sorted(set(triples)))
        self.assertGreater(wide, 5)

    def test_69_a_face_with_six_rooms(self):
        rule = SenseRule(WIDE)
        self.assertEqual(rule.pairs(), [((), (0,), (2,)), ((), (1,), (4,)), ((), (3,), (5,))])
        self.assertEqual(SenseRule(-WIDE).pairs(), rule.pairs())
        self.assertEqual([rule((), (place,)) for place in range(6)], [(2,), (4,), (0,), (5,), (1,), (3,)])
        self.assertFails(NotARoom((6,)), rule, (), (6,))
        self.assertFails(NotARoom((0,)), rule, (0,), (0,))
        self.assertEqual(SenseRule(Chain(3, 2, [])).pairs(), [])

    def test_69_errors_in_their_order(self):
        for chain in (UNSIGNED, Chain(4, 0, []), 2 * WIDE, Chain(4, 1, [((0,), 1)])):
            self.assertFails(NotSigned(0), SenseRule, chain)
        self.assertFails(BadBook("size", 0), SenseRule, Chain(4, 5, []))

    def test_69_they_lead_along_paths(self):
        chains = all_signed((2, 2, 2), [1])[0]
        family = signed_family(chains)
        for row in partitions_of(family):
            points = plain_path(family, row, 4, lambda at, face, room: plain_partner(chains[at], face, room))
            self.assertEqual(list(walk_path(family, row, 4, [SenseRule(chain) for chain in chains])), points)


class ReadingSigns(Case):
    def test_70_all_near_partitions(self):
        seen = set()
        for sizes in SHAPES:
            for chains in all_signed(sizes, range(2)):
                family = signed_family(chains)
                for target in range(family.places):
                    for row in near_of(family, target)[:40]:
                        places = list(itertools.chain(*row))
                        for came, room in enumerate(row):
                            if any(places.count(place) == 2 for place in room):
                                told = reading_sign(chains, row, target, came)
                                self.assertEqual(told, plain_reading(chains, row, target, came))
                                self.assertEqual(reading_sign(tuple(chains), list(row), target, came), told)
                                seen.add(told)
                            else:
                                self.assertFails(Mismatch("came"), reading_sign, chains, row, target, came)
        self.assertEqual(seen, {1, -1})

    def test_70_errors_in_their_order(self):
        near = ((1, 2), (2, 3))
        for chains, error in (([], BadFamily("none", 0)), ([UNSIGNED, UNSIGNED], NotSigned(0)),
                              ([RINGS[0], Chain(4, 5, [])], BadBook("size", 0)), (RINGS[:1], BadFamily("sizes", 1))):
            self.assertFails(error, reading_sign, chains, (), 9, 9)
        for target in (-1, 4, 10 ** 30):
            self.assertFails(Mismatch("target"), reading_sign, RINGS, (), target, 9)
            self.assertFails(Mismatch("target"), reading_sign, RINGS, near, target, -1)
        for row, fault in (((), "count"), (((0, 2), (1, 3)), "room"), (((0, 1), (2, 3)), "target"),
                           (((1, 2), (1, 2)), "place")):
            self.assertFails(NotAPartition(fault), reading_sign, RINGS, row, 0, 9)
            self.assertFails(NotAPartition(fault), reading_sign, RINGS, list(row), 0, 0)
        for came in (-1, -2, 2, 10 ** 30):
            self.assertFails(Mismatch("came"), reading_sign, RINGS, near, 0, came)
        self.assertEqual(reading_sign(RINGS, near, 0, 0), plain_reading(RINGS, near, 0, 0))


class Walks(Case):
    def test_71_all_points_of_a_path_have_one_sign_but_the_first(self):
        seen = 0
        for sizes in SHAPES:
            for chains in all_signed(sizes, range(2)):
                family = signed_family(chains)
                for row in partitions_of(family):
                    for target in range(family.places):
                        points = plain_path(family, row, target,
                                            lambda at, face, room: plain_partner(chains[at], face, room))
                        signs = [sign_in(chains, row)] + self.signs_between(chains, points, target)
                        signs.append(sign_in(chains, points[-1]))
                        self.assertEqual(list(walk_signs(chains, row, target)), list(zip(points, signs)))
                        self.assertEqual(list(walk_signs(tuple(chains), list(row), target)), list(zip(points, signs)))
                        self.assertEqual(set(signs[1:]), {-signs[0]})
                        seen += len(points) > 4
        self.assertGreater(seen, 50)

    def signs_between(self, chains, points, target):
        signs = []
        for before, row in zip(points, points[1:-1]):
            came, = [at for at in range(len(row)) if before[at] != row[at]]
            signs.append(plain_reading(chains, row, target, came))
        return signs

    def test_71_the_example(self):
        self.assertEqual(list(walk_signs(RINGS, ((0, 1), (2, 3)), 0)),
                         [(((0, 1), (2, 3)), 1), (((1, 2), (2, 3)), -1), (((1, 2), (0, 3)), -1)])

    def test_71_errors_come_when_the_iteration_begins(self):
        for given, error in ((([], (), 9), BadFamily("none", 0)), (([UNSIGNED], (), 9), NotSigned(0)),
                             (([Chain(4, 5, [])], (), 9), BadBook("size", 0)), ((RINGS, (), 9), Mismatch("target")),
                             ((RINGS, (), -1), Mismatch("target")), ((RINGS, (), 0), NotAPartition("count")),
                             ((RINGS, ((0, 2), (1, 3)), 0), NotAPartition("room")),
                             ((RINGS, ((0, 1), (0, 1)), 3), NotAPartition("place"))):
            walk = walk_signs(*given)
            self.assertFails(error, next, walk)

    def test_1_a_walk_reads_its_arguments_when_it_begins(self):
        chains, row = list(RINGS), [(0, 1), (2, 3)]
        walk = walk_signs(chains, row, 0)
        self.assertEqual(next(walk), (((0, 1), (2, 3)), 1))
        chains.clear()
        row.clear()
        self.assertEqual([told for _, told in walk], [-1, -1])


class Pairs(Case):
    def test_71_unlike_pairs(self):
        for sizes in SHAPES:
            for chains in all_signed(sizes, range(3)):
                family = signed_family(chains)
                rules = [SenseRule(chain) for chain in chains]
                rows = partitions_of(family)
                for target in range(family.places):
                    pairs = [(row, mate(family, row, target, rules)) for row in rows if sign_in(chains, row) == 1]
                    self.assertEqual(unlike_pairs(chains, target), pairs)
                    self.assertEqual(unlike_pairs(tuple(chains), target), pairs)
                    self.assertEqual(sorted(itertools.chain(*pairs)), rows)
                    self.assertTrue(all(partition_sign(chains, row) == -1 for _, row in pairs))

    def test_71_examples(self):
        pairs = unlike_pairs(RINGS, 0)
        self.assertEqual(pairs, [(((0, 1), (2, 3)), ((1, 2), (0, 3))), (((2, 3), (0, 1)), ((0, 3), (1, 2)))])
        self.assertTrue(all(type(pair) is tuple for pair in pairs))
        self.assertEqual(unlike_pairs([Chain(4, 2, []), RINGS[0]], 3), [])

    def test_71_errors_in_their_order(self):
        ones = [Chain(8, 1, [((place,), (-1) ** place) for place in range(8)])] * 8
        self.assertFails(BadFamily("none", 0), unlike_pairs, [], 9)
        self.assertFails(NotSigned(1), unlike_pairs, [RINGS[0], UNSIGNED], 9)
        self.assertFails(BadBook("size", 0), unlike_pairs, [Chain(4, 5, [])], 9)
        self.assertFails(Mismatch("target"), unlike_pairs, ones, 8)
        self.assertFails(Mismatch("target"), unlike_pairs, RINGS, -1)
        self.assertFails(TooMany("partitions", 5000), unlike_pairs, ones, 7)
