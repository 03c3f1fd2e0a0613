"""Paths of lots, which lead from each lot to another one (point 56)."""

from neveralone.lots import check_lot, list_lots, lot_family
from neveralone.paths import MOST_EXCHANGES, last_point, rules_by_order
from neveralone.points import check_target


def lot_mate(book, lot, target, order="next"):
    """Return the lot at the other end of the path of a lot."""
    rules = lot_rules(book, target, order)
    return mate_lot(check_lot(book, lot), target, rules)


def lot_pairs(book, target, order="next"):
    """Return the ascending list of the pairs (lesser, greater) of mates."""
    rules = lot_rules(book, target, order)
    pairs = []
    paired = {}
    for lot in list_lots(book):
        if lot not in paired:
            other = mate_lot(lot, target, rules)
            paired[other] = True
            pairs.append((lot, other))
    return pairs


def lot_rules(book, target, order):
    """Return the rules for the copies of the book, or raise what is wrong with the arguments."""
    family = lot_family(book)
    check_target(book.places, target)
    return rules_by_order(family.books, order)


def mate_lot(lot, target, rules):
    """Return the rooms of the mate of a lot in ascending order."""
    return tuple(sorted(last_point(lot, target, rules, MOST_EXCHANGES)))
