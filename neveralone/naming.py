"""Renamings of places, and what they do to rooms, books, chains and families (points 24 to 26)."""

from neveralone.books import Book
from neveralone.errors import Mismatch, TooMany
from neveralone.families import Family
from neveralone.masks import mask_of

MOST_RENAMED = 7


class Renaming:
    """New names for places: images[p] is the new name of the place p."""

    def __init__(self, images):
        check_images(images, len(images))
        self.images = tuple(images)

    def __eq__(self, other):
        return isinstance(other, Renaming) and self.images == other.images

    def __len__(self):
        return len(self.images)

    def __call__(self, place):
        """Return the new name of a place."""
        return self.images[place]

    def __invert__(self):
        return Renaming(inverse_images(self.images))

    def __mul__(self, other):
        """Return the renaming by this one and then by the other one."""
        if not isinstance(other, Renaming):
            return NotImplemented
        if len(self.images) != len(other.images):
            raise Mismatch("images")
        return Renaming([other.images[name] for name in self.images])

    def __pow__(self, other):
        return self.powered(other)

    def powered(self, k):
        """Return the product of k times the renaming, or of -k times its inverse."""
        # Going around the cycle of a place takes no longer for a large k than for a small one.
        cycles = [cycle_from(self.images, place) for place in range(len(self.images))]
        return Renaming([cycle[k % len(cycle)] for cycle in cycles])


def cycle_from(images, place):
    """Return the places that follow one another by the images, from the place until it comes again."""
    cycle = [place]
    while images[cycle[-1]] != place:
        cycle.append(images[cycle[-1]])
    return cycle


def check_images(images, places):
    """Raise Mismatch if the images are not a renaming of so many places."""
    if len(images) != places or sorted(images) != list(range(len(images))):
        raise Mismatch("images")


def inverse_images(images):
    """Return the images of the renaming that leads back."""
    check_images(images, len(images))
    return tuple([place for _, place in sorted([(images[place], place) for place in range(len(images))])])


def renamed_room(room, images):
    """Return the room of the new names of the places of a room."""
    check_images(images, len(images))
    if any([place >= len(images) for place in room]):
        raise Mismatch("images")
    return tuple(sorted([images[place] for place in room]))


def renamed_row(row, images):
    """Return the row of the renamed rooms."""
    check_images(images, len(images))
    return tuple([renamed_room(room, images) for room in row])


def renamed(book, images):
    """Return the book of the renamed rooms."""
    check_images(images, book.places)
    return Book(book.places, book.size, renamed_row(book.rooms, images))


def renamed_chain(chain, images):
    """Return the chain mapped by the images."""
    check_images(images, chain.places)
    return chain.mapped(chain.places, images)


def renamed_family(family, images):
    """Return the family of the renamed books."""
    return Family([renamed(book, images) for book in family.books])


def renaming_between(first, second):
    """Return the least renaming by which the first book becomes equal to the second one, or None."""
    found = renamings_onto(first, second)
    return found[0] if len(found) > 0 else None


def symmetries(book):
    """Return the ascending list of the renamings by which a book becomes equal to itself."""
    return renamings_onto(book, book)


def renamings_onto(first, second):
    """Return the ascending list of all renamings by which one book becomes equal to another one."""
    if first.places > MOST_RENAMED:
        raise TooMany("places", MOST_RENAMED)
    if first.places != second.places or first.size != second.size or len(first) != len(second):
        return []
    known = {mask_of(room): True for room in second.rooms}
    found = [()]
    for place in range(first.places):
        # The rooms that end with this place are renamed as soon as it has a name.
        ending = [room for room in first.rooms if room[-1] == place]
        longer = [images + (name,) for images in found for name in range(first.places) if name not in images]
        found = [images for images in longer if lead_into(images, ending, known)]
    return found


def lead_into(images, rooms, known):
    """Tell whether the images lead from all of the rooms to rooms whose masks are known."""
    return all([mask_of([images[place] for place in room]) in known for room in rooms])
