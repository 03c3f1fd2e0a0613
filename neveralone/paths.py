"""Paths of exchanges, which lead from each partition to another one (points 52 to 55)."""

from neveralone.errors import Mismatch, TooMany
from neveralone.partitions import check_partition, list_partitions
from neveralone.points import check_target
from neveralone.rooms import without
from neveralone.rules import Rule

MOST_EXCHANGES = 20000


def walk_path(family, row, target, rules=None, *, most=MOST_EXCHANGES):
    """Yield the points of a path in order, from a partition to its mate."""
    check_target(family.places, target)
    used = fitting_rules(family, rules)
    start = check_partition(family, row)
    yield start
    for _, point in walk_exchanges(start, target, used, most):
        yield point


def mate(family, row, target, rules=None, *, most=MOST_EXCHANGES):
    """Return the partition at the other end of the path."""
    check_target(family.places, target)
    used = fitting_rules(family, rules)
    return last_point(check_partition(family, row), target, used, most)


def exchanges(family, row, target, rules=None, *, most=MOST_EXCHANGES):
    """Return the list of the exchanges of a path as triples (index, leaving place, entering place)."""
    check_target(family.places, target)
    used = fitting_rules(family, rules)
    start = check_partition(family, row)
    return [step for step, _ in walk_exchanges(start, target, used, most)]


def mate_pairs(family, target, rules=None):
    """Return the ascending list of the pairs (lesser, greater) of mates."""
    check_target(family.places, target)
    used = fitting_rules(family, rules)
    rows = list_partitions(family)
    mates = mate_indexes(rows, target, used)
    return [(rows[at], rows[other]) for at, other in enumerate(mates) if at < other]


def rules_by_order(books, order):
    """Return the list of one rule of the order for each book; equal books share their rule."""
    rules = []
    for at, book in enumerate(books):
        known = [rules[k] for k in range(at) if books[k] == book]
        rules.append(known[0] if len(known) > 0 else Rule(book, order))
    return rules


def fitting_rules(family, rules):
    """Return a new list of one rule for each book, or raise Mismatch if the rules do not fit."""
    if rules is None:
        return rules_by_order(family.books, "next")
    if len(rules) != len(family):
        raise Mismatch("rules")
    if any([rule.book != book for rule, book in zip(rules, family.books)]):
        raise Mismatch("rules")
    return list(rules)


def walk_exchanges(start, target, rules, most):
    """Yield the pairs (exchange, point behind it) of the path from a partition."""
    row = start
    came = -1
    leaving = target
    done = 0
    while done == 0 or leaving != target:
        if done == most:
            raise TooMany("exchanges", most)
        at = [k for k, room in enumerate(row) if leaving in room and k != came][0]
        face = without(row[at], leaving)
        rule = rules[at]
        room = rule(face, row[at])
        entering = [place for place in room if place not in face][0]
        row = row[:at] + (room,) + row[at + 1:]
        yield ((at, leaving, entering), row)
        came = at
        leaving = entering
        done = done + 1


def last_point(start, target, rules, most):
    """Return the mate of a partition, without checks of the arguments."""
    last = start
    for _, point in walk_exchanges(start, target, rules, most):
        last = point
    return last


def mate_indexes(rows, target, rules):
    """Return for each row of the list of all partitions the index of its mate."""
    index = {row: at for at, row in enumerate(rows)}
    mates = {}
    for at, row in enumerate(rows):
        if at not in mates:
            # The path of the mate is the same path backwards, so one walk tells both.
            other = index[last_point(row, target, rules, MOST_EXCHANGES)]
            mates[at] = other
            mates[other] = at
    return [mates[at] for at in range(len(rows))]
