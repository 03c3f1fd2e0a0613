"""Trees of even webs: sets of ties that join all places of the one piece (points 121 and 122)."""

from neveralone.books import Book
from neveralone.chains import Chain
from neveralone.errors import BadWeb
from neveralone.rooms import MOST_PLACES, subsets
from neveralone.webs import arrows, closed_walks


def check_one_piece(web):
    """Raise BadWeb if an even web does not have one piece with ties, or has too many ties."""
    walks = closed_walks(web)
    if len(walks) != 1:
        raise BadWeb("pieces", len(walks))
    if len(web) > MOST_PLACES:
        raise BadWeb("ties", len(web))


def piece_places(web):
    """Return the ascending list of the places that have ties."""
    return sorted({place for tie in web.rooms for place in tie})


def tree_book(web):
    """Return the book of the trees, whose places are the numbers of the ties."""
    check_one_piece(web)
    size = len(piece_places(web)) - 1
    chosen = subsets(tuple(range(len(web))), size)
    return Book(len(web), size, [row for row in chosen if has_no_ring([web.rooms[at] for at in row])])


def has_no_ring(ties):
    """Tell whether no ties among these close a ring; one tie less than places then joins all places."""
    head = {place: place for tie in ties for place in tie}
    for first, second in ties:
        kept, gone = head[first], head[second]
        if kept == gone:
            return False
        head = {place: kept if head[place] == gone else head[place] for place in head}
    return True


def tree_chain(web):
    """Return the chain that gives signs to the trees."""
    check_one_piece(web)
    drawn = arrows(web)
    product = Chain(len(web), 0, [((), 1)])
    for place in piece_places(web)[:-1]:
        product = product * Chain(len(web), 1, place_terms(web, drawn, place))
    return product


def place_terms(web, drawn, place):
    """Return the terms that give 1 to the ties whose arrows leave a place, and -1 to those that come to it."""
    terms = []
    for at, (first, second) in enumerate(web.rooms):
        if place == first:
            terms.append(((at,), drawn[(first, second)]))
        if place == second:
            terms.append(((at,), drawn[(second, first)]))
    return terms
