"""Unbeaten bases, and the stable shares of parties that they give (points 111 to 116)."""

from neveralone.bases import bases_book, check_matrix, column_sign, is_base, solution_of
from neveralone.errors import BadParties, Mismatch, NotARoom
from neveralone.exact import lowest_terms
from neveralone.families import Family
from neveralone.orders import check_orders, least_row, own_room, unbeaten_book, unbeaten_rooms
from neveralone.paths import walk_path

MOST_PERSONS = 4
MOST_PARTIES = 8


def check_together(orders, matrix):
    """Return the numbers of orders and of things, or raise what is wrong with the orders and the matrix."""
    sizes = check_orders(orders)
    if check_matrix(matrix) != sizes:
        raise Mismatch("sizes")
    return sizes


def base_family(orders, matrix):
    """Return the family of the unbeaten book and the bases book."""
    check_together(orders, matrix)
    return Family([unbeaten_book(orders), bases_book(matrix)])


def base_start(many, things):
    """Return the partition into the room of all own places and the room of all things."""
    return (own_room(many, things), tuple(range(things)))


def unbeaten_bases(orders, matrix):
    """Return the ascending list of the rooms that are unbeaten and bases."""
    check_together(orders, matrix)
    return [room for room in unbeaten_rooms(orders) if is_base(matrix, room)]


def base_sign(orders, matrix, room):
    """Return the sign of an unbeaten base."""
    if room not in unbeaten_bases(orders, matrix):
        raise NotARoom(room)
    return column_sign(matrix, least_row(orders, room))


def base_path(orders, matrix, target):
    """Return the list of the points of the path from the start to its mate."""
    family = base_family(orders, matrix)
    many, things = check_orders(orders)
    start = base_start(many, things)
    return list(walk_path(family, start, target))


def check_parties_alone(persons, parties):
    """Raise BadParties if something is wrong with the persons or the parties."""
    if not 1 <= persons <= MOST_PERSONS:
        raise BadParties("persons", persons)
    if not 1 <= len(parties) <= MOST_PARTIES:
        raise BadParties("parties", len(parties))
    for at, party in enumerate(parties):
        if not is_party(persons, party):
            raise BadParties("party", at)


def is_party(persons, party):
    """Tell whether a tuple has one or more persons, strictly ascending."""
    members = [person for person in range(persons) if person in party]
    return len(members) > 0 and list(party) == members


def parties_of(person, parties):
    """Return the ascending list of the indexes of the parties of a person."""
    return [at for at, party in enumerate(parties) if person in party]


def check_parties(persons, parties, wishes):
    """Return the numbers of persons and of parties, or raise BadParties."""
    check_parties_alone(persons, parties)
    for person in range(min(persons, len(wishes))):
        if sorted(wishes[person]) != parties_of(person, parties):
            raise BadParties("wishes", person)
    if len(wishes) != persons:
        raise BadParties("wishes", min(persons, len(wishes)))
    return (persons, len(parties))


def party_orders(persons, parties, wishes):
    """Return the orders of the persons: their own parties as they wish, then the other ones."""
    check_parties(persons, parties, wishes)
    others = [[at for at, party in enumerate(parties) if person not in party] for person in range(persons)]
    return [tuple(listed) + tuple(rest) for listed, rest in zip(wishes, others)]


def party_matrix(persons, parties):
    """Return the matrix that has 1 for each party of a person and 0 for each other one."""
    check_parties_alone(persons, parties)
    return [tuple([1 if person in party else 0 for party in parties]) for person in range(persons)]


def share_family(persons, parties, wishes):
    """Return the family of the orders and the matrix of some parties."""
    return base_family(party_orders(persons, parties, wishes), party_matrix(persons, parties))


def share_start(persons, parties):
    """Return the start of the family of some parties."""
    check_parties_alone(persons, parties)
    return base_start(persons, len(parties))


def share_path(persons, parties, wishes, target):
    """Return the list of the points of the base path of some parties."""
    return base_path(party_orders(persons, parties, wishes), party_matrix(persons, parties), target)


def shares_at(matrix, room):
    """Return the shares that an unbeaten base gives, as a pair (numerators of all parties, denominator)."""
    numerators, denominator = solution_of(matrix, room)
    told = {place: number for place, number in zip(room, numerators)}
    numbers = lowest_terms([denominator] + [told.get(at, 0) for at in range(len(matrix[0]))])
    return (numbers[1:], numbers[0])


def stable_shares(persons, parties, wishes, target=0):
    """Return the shares of the unbeaten base at the end of the base path."""
    room, _ = share_path(persons, parties, wishes, target)[-1]
    return shares_at(party_matrix(persons, parties), room)


def is_satisfied(listed, at, numerators, denominator):
    """Tell whether the shares of a party and of those that a person likes more add up to 1."""
    return sum([numerators[other] for other in listed[listed.index(at):]]) == denominator


def blocking_parties(persons, parties, wishes, numerators, denominator):
    """Return the ascending list of the parties without a satisfied member."""
    check_parties(persons, parties, wishes)
    if len(numerators) != len(parties) or denominator < 1:
        raise Mismatch("shares")
    return [at for at, party in enumerate(parties)
            if not any([is_satisfied(wishes[person], at, numerators, denominator) for person in party])]


def is_stable(persons, parties, wishes, numerators, denominator):
    """Tell whether shares are stable."""
    if len(blocking_parties(persons, parties, wishes, numerators, denominator)) > 0 or min(numerators) < 0:
        return False
    return all([sum([numerators[at] for at in listed]) <= denominator for listed in wishes])
