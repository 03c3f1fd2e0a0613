"""Texts of books, chains, families and rows of rooms, there and back (points 17 to 22)."""

from neveralone.books import Book
from neveralone.chains import Chain
from neveralone.errors import BadText, TooMany
from neveralone.families import Family
from neveralone.rooms import MOST_PLACES

MOST_DIGITS = 60


def places_text(room):
    """Return the places of a room, separated by single spaces."""
    return " ".join([str(place) for place in room])


def book_lines(book):
    """Return the lines of the text of a book."""
    return [f"book {book.places} {book.size}"] + [places_text(room) for room in book.rooms]


def format_book(book):
    """Return the text of a book."""
    return "\n".join(book_lines(book))


def format_chain(chain):
    """Return the text of a chain, whose numbers may not be too long for a number word."""
    most = 10 ** 60
    if chain.degree >= most or any([abs(number) >= most for _, number in chain.terms]):
        raise TooMany("digits", MOST_DIGITS)
    lines = [places_text((number,) + room) for room, number in chain.terms]
    return "\n".join([f"chain {chain.places} {chain.degree}"] + lines)


def format_family(family):
    """Return the text of a family."""
    lines = [f"family {len(family.books)}"]
    for book in family.books:
        lines.extend(book_lines(book))
    return "\n".join(lines)


def format_row(row):
    """Return the line of a row of rooms."""
    return " | ".join([places_text(room) for room in row])


def is_number_word(word):
    """Tell whether a word is 0, or 1 to 60 digits of which the first is not 0."""
    if not (word.isascii() and word.isdigit()):
        return False
    return word == "0" or (word[0] != "0" and len(word) <= MOST_DIGITS)


def is_signed_word(word):
    """Tell whether a word is a number word other than 0, or one behind a minus sign."""
    return word != "0" and word != "-0" and is_number_word(word.removeprefix("-"))


def are_number_words(words):
    """Tell whether all words are number words."""
    return all([is_number_word(word) for word in words])


def head_fault(words, kind):
    """Return the first fault of the words of the first line of a book or a chain."""
    if len(words) != 3 or words[0] != kind:
        return "head"
    if not are_number_words(words[1:]):
        return "number"
    if not 1 <= int(words[1]) <= MOST_PLACES:
        return "places"
    return ""


def room_fault_after(room, places, size, before):
    """Return the first fault of a row of places in a line behind the rooms `before`."""
    if len(room) != size:
        return "count"
    if any([place >= places for place in room]):
        return "place"
    if any([room[at] >= room[at + 1] for at in range(len(room) - 1)]):
        return "order"
    if len(before) > 0 and room <= before[-1]:
        return "rooms"
    return ""


def read_room(words, line, bounds, before):
    """Return the room that the words tell, or raise BadText; bounds are the places and the size."""
    if not are_number_words(words):
        raise BadText(line, "number")
    room = tuple([int(word) for word in words])
    places, size = bounds
    fault = room_fault_after(room, places, size, before)
    if fault != "":
        raise BadText(line, fault)
    return room


def read_head(words, line, kind):
    """Return the two numbers of the first line of a book or a chain, or raise BadText."""
    fault = head_fault(words, kind)
    if fault != "":
        raise BadText(line, fault)
    return (int(words[1]), int(words[2]))


def read_book_head(words, line):
    """Return the places and the size in the first line of a book, or raise BadText."""
    places, size = read_head(words, line, "book")
    if not 1 <= size <= places:
        raise BadText(line, "size")
    return (places, size)


def parse_book(text):
    """Return the book of a text."""
    lines = text.split("\n")
    bounds = read_book_head(lines[0].split(" "), 1)
    rooms = []
    for line, words in enumerate([row.split(" ") for row in lines[1:]], start=2):
        rooms.append(read_room(words, line, bounds, rooms))
    return Book(bounds[0], bounds[1], rooms)


def parse_chain(text):
    """Return the chain of a text."""
    lines = text.split("\n")
    bounds = read_head(lines[0].split(" "), 1, "chain")
    rooms = []
    terms = []
    for line, words in enumerate([row.split(" ") for row in lines[1:]], start=2):
        if not is_signed_word(words[0]):
            raise BadText(line, "number")
        rooms.append(read_room(words[1:], line, bounds, rooms))
        terms.append((rooms[-1], int(words[0])))
    return Chain(bounds[0], bounds[1], terms)


def read_count(words):
    """Return the number of books in the first line of a family, or raise BadText."""
    if len(words) != 2 or words[0] != "family":
        raise BadText(1, "head")
    if not is_number_word(words[1]):
        raise BadText(1, "number")
    return int(words[1])


def read_books(lines, count):
    """Return the pairs (bounds, rooms) of the books in the lines from line 2 on."""
    started = []
    for line, words in enumerate([row.split(" ") for row in lines], start=2):
        if words[0] == "book":
            if len(started) == count:
                raise BadText(line, "books")
            started.append((read_book_head(words, line), []))
        elif len(started) == 0:
            raise BadText(line, "head")
        else:
            bounds, rooms = started[-1]
            rooms.append(read_room(words, line, bounds, rooms))
    return started


def parse_family(text):
    """Return the family of a text."""
    lines = text.split("\n")
    count = read_count(lines[0].split(" "))
    started = read_books(lines[1:], count)
    if len(started) < count:
        raise BadText(len(lines) + 1, "books")
    return Family([Book(places, size, rooms) for (places, size), rooms in started])


def parse_row(line):
    """Return the tuple of the rooms that a line tells."""
    rooms = []
    for section in line.split(" | "):
        words = section.split(" ")
        rooms.append(read_room(words, 1, (MOST_PLACES, len(words)), ()))
    return tuple(rooms)
