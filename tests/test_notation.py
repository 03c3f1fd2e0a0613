"""Points 17 to 22."""

import random

from neveralone.books import Book
from neveralone.chains import Chain
from neveralone.errors import BadFamily, BadText, NotEven, TooMany
from neveralone.families import Family
from neveralone.notation import (format_book, format_chain, format_family, format_row, parse_book,
                                 parse_chain, parse_family, parse_row)
from neveralone.rooms import subsets
from tests.support import Case, some_book, some_even_book, square_book

DIGITS_60 = "1" + "0" * 59
DIGITS_61 = "1" + "0" * 60
NO_NUMBERS = ("", "x", "00", "01", "+1", "-0", "--1", "1.", "1_0", "1e1", "0x1", "1\t", DIGITS_61, "9" * 61)


class Texts(Case):
    def check_faults(self, parse, faults):
        """Each text raises BadText with the line and the fault."""
        for text, line, fault in faults:
            with self.subTest(text=text):
                self.assertFails(BadText(line, fault), parse, text)

    def check_edits(self, parse, write, texts):
        """A text with one edit is refused, or it is the text of what it is read as."""
        chance = random.Random(17)
        for text in texts:
            for at in range(len(text) + 1):
                for sign in ("", chance.choice("0123456789"), " ", "\n", "-", chance.choice("bookchainfml |")):
                    for edited in (text[:at] + sign + text[at:], text[:at] + sign + text[at + 1:]):
                        try:
                            read = parse(edited)
                        except (BadText, BadFamily, NotEven):
                            continue
                        self.assertEqual(write(read), edited)


class BookTexts(Texts):
    def test_19_text_of_a_book(self):
        self.assertEqual(format_book(Book(4, 2, [(3, 2), (0, 1)])), "book 4 2\n0 1\n2 3")
        self.assertEqual(format_book(Book(12, 3, [(0, 10, 11)])), "book 12 3\n0 10 11")
        self.assertEqual(format_book(Book(3, 1, [(2,)])), "book 3 1\n2")
        self.assertEqual(format_book(Book(12, 12, [])), "book 12 12")

    def test_18_there_and_back(self):
        books = [some_book(seed, places, size) for seed in range(3)
                 for places in (1, 2, 5, 12) for size in (1, places)]
        for book in books + [Book(4, 3, []), some_book(1, 12, 6)]:
            self.assertEqual(parse_book(format_book(book)), book)
        self.check_edits(parse_book, format_book, ["book 12 2\n0 1\n1 10", "book 1 1", "book 3 1\n0\n2"])

    def test_19_faults_of_the_first_line(self):
        heads = ["", "\n", "book", "book 4", "book 4 2 ", " book 4 2", "Book 4 2", "chain 4 2", "book 4 2 1",
                 "book\n4 2", "book 4 2\t 3"]
        faults = [(text, 1, "head") for text in heads]
        for word in NO_NUMBERS + ("-1",):
            faults.extend([(f"book {word} 2", 1, "number"), (f"book 4 {word}", 1, "number"),
                           (f"book {word} 99\nx", 1, "number"), (f"book 99 {word}", 1, "number")])
        for places in ("0", "13", "99", DIGITS_60):
            faults.extend([(f"book {places} 1", 1, "places"), (f"book {places} 0", 1, "places")])
        for size in ("0", "5", DIGITS_60):
            faults.extend([(f"book 4 {size}", 1, "size"), (f"book 4 {size}\nx", 1, "size")])
        self.check_faults(parse_book, faults + [("bok 0 x", 1, "head"), ("book 13 14", 1, "places")])
        self.assertEqual(parse_book("book 12 12").places, 12)
        self.assertEqual(parse_book("book 1 1\n0"), Book(1, 1, [(0,)]))

    def test_19_faults_of_later_lines(self):
        lines = [("", "number"), (" ", "number"), ("0 3 ", "number"), (" 0 3", "number"), ("0  3", "number"),
                 ("0\t3", "number"), ("0", "count"), ("0 1 2", "count"), ("9 9 9", "count"), ("9", "count"),
                 ("0 4", "place"), ("4 0", "place"), ("9 9", "place"), (f"0 {DIGITS_60}", "place"),
                 ("3 0", "order"), ("2 2", "order"), ("0 0", "order"), ("0 1", "rooms"), ("0 2", "rooms")]
        lines.extend([(f"{word} 3", "number") for word in NO_NUMBERS])
        lines.extend([(f"0 {word}", "number") for word in NO_NUMBERS + ("-1",)])
        for line, fault in lines:
            self.check_faults(parse_book, [(f"book 4 2\n0 2\n{line}", 3, fault),
                                           (f"book 4 2\n0 1\n0 2\n{line}\nx\n0", 4, fault)])
            if fault != "rooms":
                self.check_faults(parse_book, [(f"book 4 2\n{line}", 2, fault)])
        self.assertEqual(parse_book("book 4 2\n0 2").rooms, ((0, 2),))

    def test_19_the_first_fault_of_the_first_faulty_line(self):
        self.check_faults(parse_book, [
            ("book 4 2\n1 2\n1 0", 3, "order"), ("book 4 2\n1 2\n1 9\n1 1", 3, "place"),
            ("book 4 2\nx 2 3", 2, "number"), ("book 4 2\n0 1\n0 1\nx", 3, "rooms"),
            ("book 4 2\n0 1\n", 3, "number"), ("book 4 2\n", 2, "number"),
            ("book 4 2\n\n0 1", 2, "number"), ("book 4 2\nbook 4 2", 2, "number")])


class ChainTexts(Texts):
    def test_20_text_of_a_chain(self):
        chain = Chain(4, 2, [((3, 2), 5), ((0, 1), 12)])
        self.assertEqual(format_chain(chain), "chain 4 2\n12 0 1\n-5 2 3")
        self.assertEqual(format_chain(Chain(3, 0, [((), -7)])), "chain 3 0\n-7")
        self.assertEqual(format_chain(Chain(3, 0, [])), "chain 3 0")
        self.assertEqual(format_chain(Chain(3, 9, [])), "chain 3 9")

    def test_18_there_and_back(self):
        for seed in range(4):
            chance = random.Random(seed)
            for places, degree in ((1, 0), (1, 1), (5, 2), (12, 3), (3, 5)):
                terms = [(room, chance.randint(-10 ** 20, 10 ** 20))
                         for room in subsets(tuple(range(places)), degree)]
                chain = Chain(places, degree, terms)
                self.assertEqual(parse_chain(format_chain(chain)), chain)
        self.check_edits(parse_chain, format_chain, ["chain 12 2\n-3 0 1\n10 1 10", "chain 1 0\n5", "chain 3 9"])

    def test_20_at_60_and_61_digits(self):
        most = 10 ** 60 - 1
        for number in (most, -most):
            chain = Chain(2, 1, [((0,), number)])
            self.assertEqual(format_chain(chain), f"chain 2 1\n{number} 0")
            self.assertEqual(parse_chain(format_chain(chain)), chain)
        self.assertEqual(parse_chain(format_chain(Chain(2, most, []))).degree, most)
        for number in (most + 1, -most - 1, 10 ** 5000):
            self.assertFails(TooMany("digits", 60), format_chain, Chain(2, 1, [((1,), number), ((0,), 1)]))
        for degree in (most + 1, 10 ** 5000):
            self.assertFails(TooMany("digits", 60), format_chain, Chain(2, degree, []))

    def test_20_faults_of_the_first_line(self):
        faults = [(text, 1, "head") for text in ("", "chain 4", "chain 4 2 ", "book 4 2", "Chain 4 2", "chain4 2 1")]
        for word in NO_NUMBERS + ("-1",):
            faults.extend([(f"chain {word} 2", 1, "number"), (f"chain 4 {word}", 1, "number"),
                           (f"chain 99 {word}", 1, "number")])
        faults.extend([(f"chain {word} 2\nx", 1, "places") for word in ("0", "13", DIGITS_60)])
        self.check_faults(parse_chain, faults)
        self.assertEqual(parse_chain("chain 12 " + DIGITS_60), Chain(12, 10 ** 59, []))

    def test_20_faults_of_later_lines(self):
        lines = [("", "number"), ("1", "count"), ("1 0", "count"), ("1 0 1 2", "count"), ("1 9 9 9", "count"),
                 ("1 0 4", "place"), ("1 4 0", "place"), ("1 9 9", "place"), (f"1 0 {DIGITS_60}", "place"),
                 ("1 3 0", "order"), ("1 2 2", "order"), ("1 0 1", "rooms"), ("-9 0 2", "rooms"),
                 ("0 0 3", "number"), (" 1 0 3", "number"), ("1  3", "number"), ("0 9 9 9", "number"),
                 ("- 0 3", "number"), ("1 0 3 ", "number"), ("1 0 -1", "number"), ("1 -1 0", "number")]
        for word in NO_NUMBERS:
            lines.extend([(f"{word} 0 3", "number"), (f"-{word} 0 3", "number"), (f"1 {word} 3", "number"),
                          (f"1 0 {word}", "number")])
        lines = [(line, fault) for line, fault in lines if not line.startswith("-+") and line != "--1 0 3"]
        for line, fault in lines:
            self.check_faults(parse_chain, [(f"chain 4 2\n-7 0 2\n{line}", 3, fault),
                                            (f"chain 4 2\n1 0 1\n1 0 2\n{line}\nx\n0", 4, fault)])
            if fault != "rooms":
                self.check_faults(parse_chain, [(f"chain 4 2\n{line}", 2, fault)])
        self.check_faults(parse_chain, [("chain 4 2\n--1 0 3", 2, "number"), ("chain 4 2\n-+1 0 3", 2, "number")])

    def test_20_signed_words_of_60_and_61_digits(self):
        for word in (DIGITS_60, "-" + DIGITS_60):
            self.assertEqual(parse_chain(f"chain 2 1\n{word} 0").terms, (((0,), int(word)),))
        self.check_faults(parse_chain, [(f"chain 2 1\n{word} 0", 2, "number") for word in (DIGITS_61, "-" + DIGITS_61)])

    def test_20_degree_0_and_degrees_beyond_the_places(self):
        self.assertEqual(parse_chain("chain 4 0\n-3"), Chain(4, 0, [((), -3)]))
        self.check_faults(parse_chain, [
            ("chain 4 0\n3\n3", 3, "rooms"), ("chain 4 0\n3 1", 2, "count"), ("chain 4 0\n0", 2, "number"),
            ("chain 4 0\n", 2, "number"), ("chain 2 3\n1 0 1", 2, "count"), ("chain 2 3\n1 0 1 2", 2, "place"),
            ("chain 2 3\n1 0 1 1", 2, "order"), (f"chain 2 {DIGITS_60}\n1 0", 2, "count")])


class FamilyTexts(Texts):
    def test_21_text_of_a_family(self):
        family = Family([square_book(), Book(4, 2, [])])
        self.assertEqual(format_family(family), "family 2\nbook 4 2\n0 1\n0 3\n1 2\n2 3\nbook 4 2")
        self.assertEqual(format_family(Family([Book(1, 1, [])])), "family 1\nbook 1 1")

    def test_18_there_and_back(self):
        for sizes in ((2, 2), (1, 2, 3), (3, 3), (1, 1, 1, 1), (5,)):
            books = [some_even_book(f"text {at}", sum(sizes), size) for at, size in enumerate(sizes)]
            self.assertEqual(parse_family(format_family(Family(books))), Family(books))
        self.check_edits(parse_family, format_family, ["family 2\nbook 2 1\n0\n1\nbook 2 1", "family 1\nbook 1 1"])

    def test_21_faults_of_the_first_line(self):
        faults = [(text, 1, "head") for text in ("", "family", "family 1 ", "family  1", " family 1", "book 1", "Family 1",
                                                 "family 1 2\nbook 1 1")]
        faults.extend([(f"family {word}\nx", 1, "number") for word in NO_NUMBERS + ("-1",) if word != "1\t"])
        self.check_faults(parse_family, faults + [("family ", 1, "number"), ("families x", 1, "head")])

    def test_21_line_2_starts_a_book(self):
        for count in ("0", "1", "2", DIGITS_60):
            for line in ("", "0 1", "Book 2 1", " book 2 1", "family 1", "books 2 1"):
                self.check_faults(parse_family, [(f"family {count}\n{line}", 2, "head")])
        self.check_faults(parse_family, [("family 1\nbook", 2, "head"), ("family 1\nbook 2 1 ", 2, "head")])

    def test_21_too_many_books(self):
        self.check_faults(parse_family, [
            ("family 0\nbook 2 1", 2, "books"), ("family 0\nbook", 2, "books"),
            ("family 1\nbook 2 1\nbook 2 1", 3, "books"), ("family 1\nbook 2 1\n0\nbook x", 4, "books"),
            ("family 1\nbook 2 1\n0\n1\nbook 2 1\nx", 5, "books")])

    def test_21_too_few_books(self):
        self.check_faults(parse_family, [
            ("family 1", 2, "books"), (f"family {DIGITS_60}", 2, "books"),
            ("family 2\nbook 2 1", 3, "books"), ("family 3\nbook 2 1\n0\n1\nbook 2 1", 6, "books")])

    def test_21_faults_of_books_have_the_line_of_the_whole_text(self):
        start = "family 2\nbook 4 2\n0 1\n0 3\n1 2\n2 3\n"
        for line, fault in (("book 4", "head"), ("book 4 x", "number"), ("book 13 1", "places"),
                            ("book 4 5", "size"), ("0 x", "number"), ("", "number"), ("0", "count"),
                            ("0 4", "place"), ("3 2", "order"), ("2 3", "rooms"), ("0 2", "rooms")):
            self.check_faults(parse_family, [(f"{start}{line}\nx", 7, fault)])
        for line, fault in (("0 x", "number"), ("0", "count"), ("0 4", "place"), ("1 1", "order")):
            self.check_faults(parse_family, [(f"{start}book 4 2\n{line}\nx", 8, fault)])
        self.check_faults(parse_family, [(f"{start}book 3 1\n0\n3", 9, "place"), (f"{start}book 4 2\n0 1\n0 1", 9, "rooms")])
        self.assertEqual(len(parse_family(f"{start}book 4 2\n0 1\n0 3\n1 2\n2 3")), 2)

    def test_21_errors_of_the_family(self):
        self.assertFails(BadFamily("none", 0), parse_family, "family 0")
        self.assertFails(BadFamily("places", 1), parse_family, "family 2\nbook 4 2\nbook 5 2")
        self.assertFails(BadFamily("sizes", 1), parse_family, "family 1\nbook 4 2\n0 1")
        self.assertFails(NotEven(1, (0,)), parse_family, "family 2\nbook 4 2\nbook 4 2\n0 1")
        self.assertFails(BadText(3, "books"), parse_family, "family 2\nbook 4 3")
        self.assertFails(BadText(3, "number"), parse_family, "family 1\nbook 4 3\n")


class RowTexts(Texts):
    def test_22_line_of_a_row(self):
        self.assertEqual(format_row(((0, 1), (2, 3))), "0 1 | 2 3")
        self.assertEqual(format_row([(11,)]), "11")
        self.assertEqual(format_row([(0,), (0, 10, 11), (2,)]), "0 | 0 10 11 | 2")
        self.assertEqual(parse_row("0 1 | 2 3"), ((0, 1), (2, 3)))

    def test_22_there_and_back(self):
        rooms = subsets(tuple(range(0, 12, 3)), 2) + [(0,), (11,), tuple(range(12))]
        for first in rooms:
            for row in ((first,), (first, (5,)), (first, first, (0, 11))):
                self.assertEqual(parse_row(format_row(list(row))), row)
        self.check_edits(parse_row, format_row, ["0 1 | 2 3", "0 | 10 11 | 5", "7"])

    def test_22_faults_of_a_section(self):
        sections = [("", "number"), ("x", "number"), ("0 ", "number"), (" 0", "number"), ("0  1", "number"),
                    ("-1", "number"), ("01", "number"), ("0\n1", "number"), ("\n", "number"), ("0\n", "number"),
                    (DIGITS_61, "number"), ("|", "number"), ("0|1", "number"), ("0 |1", "number"), ("0| 1", "number"),
                    ("99 x", "number"), ("12", "place"), (DIGITS_60, "place"), ("12 0", "place"), ("13 13", "place"),
                    ("1 0", "order"), ("1 1", "order"), ("0 5 4", "order")]
        for section, fault in sections:
            self.check_faults(parse_row, [(section, 1, fault), (f"{section} | 1 0 | x", 1, fault),
                                          (f"0 1 | {section} | 99", 1, fault), (f"0 1 | {section}", 1, fault)])

    def test_22_other_separators(self):
        self.check_faults(parse_row, [(text, 1, "number") for text in (
            "0  | 1", "0 |  1", "0 | | 1", "0 |  | 1", "0 | ", " | 0", " | ", "0 || 1", "0 | 1 |", "| 0", "0 | 1 | ",
            "0, 1", "0\n| 1", "0 |\n1")])

    def test_1_a_list_of_rooms_stays_as_it_is(self):
        row = [(0, 1), (2,)]
        format_row(row)
        self.assertEqual(row, [(0, 1), (2,)])
