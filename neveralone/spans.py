"""Sums of some books of a list, and tests that show there is no such sum (points 35 to 37)."""

from neveralone.errors import Mismatch


def combination(target, books):
    """Return ("sum", indexes) if the target is a sum of some of the books, or ("test", rooms)."""
    check_alike(target, books)
    rooms = all_rooms_of([target, *books])
    bits = {room: 1 << at for at, room in enumerate(rooms)}
    basis = basis_of([bits_of(book, bits) for book in books])
    left, used = reduced(bits_of(target, bits), 0, basis)
    if left == 0:
        return ("sum", tuple([at for at in range(len(books)) if (used >> at) & 1]))
    # One room of the rest alone is odd in the target; pivots beside it make each row of the basis even.
    chosen = left & -left
    odd = chosen
    for pivot, row, _ in basis:
        if row & chosen:
            odd = odd | pivot
    return ("test", tuple([room for room in rooms if bits[room] & odd]))


def rank_of(books):
    """Return the greatest number of books of which no sum of one or more is without rooms."""
    if len(books) == 0:
        return 0
    check_alike(books[0], books)
    bits = {room: 1 << at for at, room in enumerate(all_rooms_of(books))}
    return len(basis_of([bits_of(book, bits) for book in books]))


def check_alike(target, books):
    """Raise Mismatch for the first book whose places or size are not those of the target."""
    for book in books:
        if book.places != target.places:
            raise Mismatch("places")
        if book.size != target.size:
            raise Mismatch("size")


def all_rooms_of(books):
    """Return the ascending list of the rooms of all books."""
    return sorted({room for book in books for room in book.rooms})


def bits_of(book, bits):
    """Return the integer whose bits are the rooms of the book."""
    return sum([bits[room] for room in book.rooms])


def basis_of(rows):
    """Return triples (pivot, sum of rows, indexes of these rows) whose sums make up all sums of rows.

    The pivot is a bit that only this sum has. The indexes of the rows are bits, too.
    """
    basis = []
    for at, row in enumerate(rows):
        left, used = reduced(row, 1 << at, basis)
        if left != 0:
            pivot = left & -left
            basis = [cleared_of(pivot, entry, left, used) for entry in basis]
            basis.append((pivot, left, used))
    return basis


def cleared_of(pivot, entry, left, used):
    """Return the entry of a basis, without the pivot of a new row."""
    own, row, parts = entry
    if row & pivot:
        return (own, row ^ left, parts ^ used)
    return entry


def reduced(row, used, basis):
    """Return the row without any pivot of the basis, and the indexes of the rows that it took."""
    for pivot, other, parts in basis:
        if row & pivot:
            row = row ^ other
            used = used ^ parts
    return (row, used)
