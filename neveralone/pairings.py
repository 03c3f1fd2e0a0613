"""Pairings of webs, and barriers, which show that there is none (points 119 and 120)."""

from neveralone.lotpaths import lot_mate
from neveralone.masks import mask_of
from neveralone.webs import check_even_web, check_web, tied_places


def second_pairing(web, pairing, target, *, order="next"):
    """Return the pairing of an even web that the path of a pairing leads to."""
    check_even_web(web)
    return lot_mate(web, pairing, target, order)


def odd_pieces(web, room):
    """Return the number of odd pieces that are left without the places of a room."""
    check_web(web)
    near = tied_places(web)
    left = [place for place in range(web.places) if place not in room]
    many = 0
    while len(left) > 0:
        piece = piece_among(near, left)
        many = many + len(piece) % 2
        left = [place for place in left if place not in piece]
    return many


def piece_among(near, left):
    """Return the places that ties among some places lead to from the first one of them."""
    found = [left[0]]
    at = 0
    while at < len(found):
        found.extend([other for other in near[found[at]] if other in left and other not in found])
        at = at + 1
    return found


def find_pairing(web):
    """Return ("pairing", lot) if a web has a pairing, otherwise ("barrier", room)."""
    check_web(web)
    near = tied_places(web)
    most = most_ties(near)
    everything = (1 << web.places) - 1
    if 2 * most[everything] == web.places:
        return ("pairing", pairing_from(near, most, everything))
    return ("barrier", barrier_from(near, most, everything))


def most_ties(near):
    """Return for each set of places, as an integer, the greatest number of ties in it without a common place."""
    most = [0]
    for mask in range(1, 1 << len(near)):
        place = mask.bit_length() - 1
        rest = mask ^ (1 << place)
        # The last place of the set stays without a tie, or it is tied to one of the others.
        tied = [1 + most[rest ^ (1 << other)] for other in near[place] if (rest >> other) & 1]
        most.append(max([most[rest]] + tied))
    return most


def pairing_from(near, most, everything):
    """Return a pairing of a web that has one."""
    left = everything
    ties = []
    for place, others in enumerate(near):
        if (left >> place) & 1:
            rests = [(other, left ^ mask_of((place, other))) for other in others if (left >> other) & 1]
            # What is left is paired as well if it loses just one tie.
            other, left = [(other, rest) for other, rest in rests if most[rest] + 1 == most[left]][0]
            ties.append((place, other))
    return tuple(ties)


def barrier_from(near, most, everything):
    """Return a barrier of a web without a pairing.

    Some places are left out by a greatest set of ties without common places. The other places that are
    tied to one of these are a barrier (Gallai and Edmonds).
    """
    free = [place for place in range(len(near)) if most[everything ^ (1 << place)] == most[everything]]
    return tuple([place for place, others in enumerate(near)
                  if place not in free and any([other in free for other in others])])
