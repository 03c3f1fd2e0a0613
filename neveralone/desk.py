"""Desks: books that change by deeds, which can be undone and done again (points 132 to 141)."""

from neveralone.books import Book
from neveralone.deed_texts import format_deed, read_deed
from neveralone.deeds import done_deed
from neveralone.errors import BadDeed, BadPaper, BadText, NeverAloneError, TooMany
from neveralone.families import Family
from neveralone.filling import book_number
from neveralone.notation import are_number_words, places_text
from neveralone.papers import PathPaper, paper_of
from neveralone.partitions import count_partitions


class Desk:
    """Even books of given sizes and kept paths, with the deeds that led to them."""

    MOST_PLACES = 8

    def __init__(self, places, sizes):
        if places > Desk.MOST_PLACES:
            raise TooMany("places", Desk.MOST_PLACES)
        self.books = Family([Book.empty(places, size) for size in sizes]).books
        self._kept = ()
        # Triples (deed, state before it, state behind it); a state has the books and the kept paths.
        self._done = []
        self._undone = []

    @classmethod
    def read(cls, text):
        """Return the desk of a text."""
        lines = text.split("\n")
        numbers = head_numbers(lines[0].split(" "))
        try:
            desk = cls(numbers[0], numbers[1:])
        except NeverAloneError:
            raise BadText(1, "sizes")
        for line, told in enumerate(lines[1:], start=2):
            deed = read_deed(told, line)
            try:
                desk.do(deed)
            except BadDeed:
                raise BadText(line, "fails")
        return desk

    def __len__(self):
        return len(self.books)

    def __iter__(self):
        return iter(self.books)

    def __getitem__(self, at):
        """Return the book with the index `at`."""
        if not 0 <= at < len(self.books):
            raise BadDeed("book")
        return self.books[at]

    def __setitem__(self, at, worth):
        """Replace the book with the index `at` by the one with the number `worth`."""
        self.do(("number", at, worth))

    @property
    def current(self):
        """Return the family of the books."""
        return Family(self.books)

    @property
    def journal(self):
        """Return the tuple of the deeds that are done and not undone."""
        return tuple([step[0] for step in self._done])

    def number(self):
        """Return the number of partitions of the family of the books."""
        return count_partitions(self.current)

    def do(self, deed):
        """Do a deed."""
        self.do_all(deed)

    def do_all(self, *deeds):
        """Do deeds in order: all of them, or none if one of them raises an error."""
        state = (self.books, self._kept)
        steps = []
        for deed in deeds:
            plain, behind = done_deed(state, deed)
            steps.append((plain, state, behind))
            state = behind
        if len(steps) > 0:
            self.books, self._kept = state
            self._done = self._done + steps
            self._undone = []

    def undo(self):
        """Undo the last deed that is done, and return it."""
        if len(self._done) == 0:
            raise BadDeed("undo")
        step = self._done.pop()
        self._undone.append(step)
        self.books, self._kept = step[1]
        return step[0]

    def redo(self):
        """Do the deed again that was undone last, and return it."""
        if len(self._undone) == 0:
            raise BadDeed("redo")
        step = self._undone.pop()
        self._done.append(step)
        self.books, self._kept = step[2]
        return step[0]

    def papers(self):
        """Return the list of the kept paths as papers over the current family."""
        family = self.current
        return [PathPaper(family, target, start, steps) for target, start, steps in self._kept]

    def standing(self):
        """Return the list of what has become of the kept paths."""
        return [standing_of(paper) for paper in self.papers()]

    def text(self):
        """Return the text of the desk."""
        numbers = places_text([self.books[0].places] + [book.size for book in self.books])
        return "\n".join([f"desk {numbers}"] + [format_deed(deed) for deed in self.journal])

    def report(self):
        """Return the lines of the report."""
        lines = ["  at  size  rooms        number"]
        for at, book in enumerate(self.books):
            rooms = len(book)
            number = book_number(book)
            lines.append(f"{at:>4}{book.size:>6}{rooms:>7}{number:>14}")
        many = self.number()
        return lines + [f"partitions{many:>21}"]


def head_numbers(words):
    """Return the numbers in the first line of the text of a desk, or raise BadText."""
    if len(words) < 3 or words[0] != "desk":
        raise BadText(1, "head")
    if not are_number_words(words[1:]):
        raise BadText(1, "number")
    return [int(word) for word in words[1:]]


def standing_of(paper):
    """Return what has become of the path of a paper, as a tuple."""
    try:
        row = paper.end()
    except BadPaper as error:
        return ("lost", error.step, error.fault)
    if paper == paper_of(paper.family, paper.start, paper.target):
        return ("same", row)
    return ("other", row)
