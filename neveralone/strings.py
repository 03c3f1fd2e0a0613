"""Strings on a ring: full rooms of ring books as pairings of a label web (points 79 to 83)."""

from neveralone.errors import Mismatch
from neveralone.labels import another_full, full_rooms
from neveralone.makers import ring_book
from neveralone.rooms import subsets


def runs(places, room):
    """Return the list of the runs of a room on the ring, by their first places."""
    if len(room) == places:
        return [tuple(room)]
    starts = [place for place in room if (place - 1) % places not in room]
    return [run_from(places, room, start) for start in starts]


def run_from(places, room, start):
    """Return the run that begins with a place, of a room with fewer places than the ring."""
    run = [start]
    while (run[-1] + 1) % places in room:
        run.append((run[-1] + 1) % places)
    return tuple(run)


def string_names(places, room):
    """Return the ascending tuple of the first places of the pairs that the runs are cut into."""
    found = runs(places, room)
    if any([len(run) & 1 for run in found]):
        raise Mismatch("run")
    return tuple(sorted([place for run in found for place in run[::2]]))


def string_room(places, names):
    """Return the room of the places of all names and of the places that follow them."""
    covered = sorted(list(names) + [(name + 1) % places for name in names])
    if any([covered[at] == covered[at + 1] for at in range(len(covered) - 1)]):
        raise Mismatch("names")
    return tuple(covered)


def label_web(labels):
    """Return the list of the ties of each label with the label of the place that follows."""
    return [(labels[at], labels[(at + 1) % len(labels)]) for at in range(len(labels))]


def web_pairings(ties, kinds):
    """Return the ascending list of the pairings of ties for the labels 1 to `kinds`."""
    wanted = list(range(1, kinds + 1))
    chosen = subsets(tuple(range(len(ties))), kinds // 2)
    return [row for row in chosen if sorted([end for at in row for end in ties[at]]) == wanted]


def full_strings(labels, kinds):
    """Return the ascending list of the full rooms of the ring book."""
    return full_rooms(ring_book(len(labels), kinds), labels)


def another_string(labels, kinds, room, target):
    """Return the full string at the other end of the path of a full string."""
    return another_full(ring_book(len(labels), kinds), labels, room, target)


def another_pairing(labels, kinds, names, target):
    """Return the names of the full string that the full string with some names leads to."""
    room = string_room(len(labels), names)
    return string_names(len(labels), another_string(labels, kinds, room, target))
