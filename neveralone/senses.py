"""Senses of rooms at their faces, and the paths whose points all have one sign (points 69 to 71)."""

from neveralone.balance import book_of_signed, row_sign, signed_family, written_sign
from neveralone.books import face_table
from neveralone.errors import Mismatch, NotAPartition, NotARoom
from neveralone.partitions import check_partition
from neveralone.paths import MOST_EXCHANGES, mate_pairs, walk_exchanges
from neveralone.points import check_target, double_place, near_fault
from neveralone.rooms import faces
from neveralone.rules import Rule


def sense_at(chain, face, room):
    """Return the coefficient of a room, with the sign that its face has in the boundary."""
    number = chain[room]
    if number == 0 or face not in faces(room):
        raise NotARoom(room)
    return -number if faces(room).index(face) & 1 else number


class SenseRule(Rule):
    """Pairs at each face of a signed book: a room of sense 1 with one of sense -1."""

    def __init__(self, chain):
        self.book = book_of_signed(chain)
        self.chain = chain
        self._partners = sense_partners(chain, self.book)


def sense_partners(chain, book):
    """Return the dict from each (face, room) of a signed book to the partner by the senses."""
    table = face_table(book)
    partners = {}
    for face in table:
        for first, second in sense_pairs(chain, face, table[face]):
            partners[(face, first)] = second
            partners[(face, second)] = first
    return partners


def sense_pairs(chain, face, rooms):
    """Return the pairs of the rooms of sense 1 and those of sense -1 at a face, in ascending order."""
    positive = [room for room in rooms if sense_at(chain, face, room) == 1]
    negative = [room for room in rooms if sense_at(chain, face, room) == -1]
    return list(zip(positive, negative))


def reading_sign(chains, row, target, came):
    """Return the reading sign of a near partition of a signed family."""
    family = signed_family(chains)
    fault = near_fault(family, row, target)
    if fault != "":
        raise NotAPartition(fault)
    if not 0 <= came < len(row) or double_place(row) not in row[came]:
        raise Mismatch("came")
    return near_sign(chains, row, target, came)


def near_sign(chains, row, target, came):
    """Return the reading sign, without checks of the arguments."""
    double = double_place(row)
    places = []
    for at, room in enumerate(row):
        places.extend([target if at == came and place == double else place for place in room])
    return written_sign(chains, row, places)


def walk_signs(chains, row, target):
    """Yield the pairs (point, sign) for the points of a path by sense rules."""
    family = signed_family(chains)
    kept = list(chains)
    check_target(family.places, target)
    rules = [SenseRule(chain) for chain in kept]
    start = check_partition(family, row)
    yield (start, row_sign(kept, start))
    for (came, _, entering), point in walk_exchanges(start, target, rules, MOST_EXCHANGES):
        if entering == target:
            yield (point, row_sign(kept, point))
        else:
            yield (point, near_sign(kept, point, target, came))


def unlike_pairs(chains, target):
    """Return the ascending list of the pairs (partition of sign 1, its mate by the sense rules)."""
    family = signed_family(chains)
    pairs = mate_pairs(family, target, [SenseRule(chain) for chain in chains])
    turned = [(first, second) if row_sign(chains, first) == 1 else (second, first) for first, second in pairs]
    return sorted(turned)
