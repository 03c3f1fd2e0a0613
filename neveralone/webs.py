"""Webs, which are books of size 2, with their closed walks, arrows and rings (points 117 to 119)."""

from neveralone.books import Book
from neveralone.chains import Chain
from neveralone.errors import BadWeb


def check_web(web):
    """Raise BadWeb if a book is not a web."""
    if web.size != 2:
        raise BadWeb("size", web.size)


def check_even_web(web):
    """Raise BadWeb if a book is not an even web."""
    for place, degree in enumerate(web_degrees(web)):
        if degree & 1:
            raise BadWeb("odd", place)


def web_degrees(web):
    """Return the list of the numbers of ties of all places."""
    check_web(web)
    return [len([tie for tie in web.rooms if place in tie]) for place in range(web.places)]


def tied_places(web):
    """Return for each place the ascending list of the places that it is tied to."""
    found = [[] for _ in range(web.places)]
    for first, second in web.rooms:
        found[first].append(second)
        found[second].append(first)
    return found


def closed_walks(web):
    """Return the list of closed walks, one for each piece with ties of an even web."""
    check_even_web(web)
    near = tied_places(web)
    walks = []
    for place, others in enumerate(near):
        # A piece is walked as a whole from its least place, so any other place with a tie begins a new one.
        if len(others) > 0 and all([place not in walk for walk in walks]):
            walks.append(walk_from(near, place))
    return walks


def walk_from(near, start):
    """Return the closed walk from a place along each tie of its piece."""
    left = [list(others) for others in near]
    walk = []
    waiting = [start]
    while len(waiting) > 0:
        place = waiting[-1]
        if len(left[place]) == 0:
            # Where no tie is left, the walk comes back along what is waiting.
            walk.append(waiting.pop())
        else:
            other = left[place].pop(0)
            left[other].remove(place)
            waiting.append(other)
    return walk


def arrows(web):
    """Return the chain of the steps of the closed walks of an even web."""
    steps = [(walk[at], walk[at + 1]) for walk in closed_walks(web) for at in range(len(walk) - 1)]
    return Chain(web.places, 2, [(step, 1) for step in steps])


def ring_parts(web):
    """Return a list of rings of an even web that have each tie exactly once."""
    walks = closed_walks(web)
    return [ring for walk in walks for ring in rings_of_walk(walk)]


def rings_of_walk(walk):
    """Return the rings that a closed walk is cut into wherever it comes to a place again."""
    rings = []
    way = []
    for place in walk:
        if place in way:
            rings.append(tuple(way[way.index(place):]))
            way = way[:way.index(place)]
        way = way + [place]
    return rings


def closed_ring(places, order):
    """Return the web of the ring of some places in an order."""
    different = len(set(order))
    if different < 3 or different != len(order):
        raise BadWeb("ring", different)
    return Book(places, 2, [(place, order[(at + 1) % len(order)]) for at, place in enumerate(order)])
