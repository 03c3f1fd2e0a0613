"""Points 12 and 13: making families, and what their partitions are."""

from neveralone.books import Book
from neveralone.errors import BadFamily, NotEven
from neveralone.families import Family
from tests.support import Case, square_book

ODD = Book(4, 2, [(1, 2), (1, 3), (0, 3)])


class Families(Case):
    def test_12_fields(self):
        family = Family([square_book(), Book(4, 2, [])])
        self.assertEqual(family.places, 4)
        self.assertEqual(family.books, (square_book(), Book(4, 2, [])))
        self.assertEqual(len(family), 2)
        self.assertEqual(family[0], square_book())
        self.assertEqual(family[1], Book(4, 2, []))
        self.assertEqual(list(family), [square_book(), Book(4, 2, [])])
        self.assertEqual(Family((Book(1, 1, []),)).books, (Book(1, 1, []),))

    def test_12_equality(self):
        family = Family([square_book(), Book(4, 2, [])])
        self.assertTrue(family == Family((square_book(), Book(4, 2, []))))
        self.assertFalse(family == Family((Book(4, 2, []), square_book())))
        self.assertFalse(family == Family((square_book(), Book(4, 1, []), Book(4, 1, []))))
        self.assertFalse(family == list(family))

    def test_12_no_book(self):
        self.assertFails(BadFamily("none", 0), Family, [])
        self.assertFails(BadFamily("none", 0), Family, ())

    def test_12_places(self):
        other = Book(5, 2, [])
        self.assertFails(BadFamily("places", 1), Family, [ODD, other])
        self.assertFails(BadFamily("places", 2), Family, [square_book(), ODD, other, other])
        self.assertFails(BadFamily("places", 1), Family, [other, square_book(), square_book()])

    def test_12_sizes(self):
        self.assertFails(BadFamily("sizes", 1), Family, [ODD])
        self.assertFails(BadFamily("sizes", 3), Family, [ODD, square_book(), square_book()])
        self.assertFails(BadFamily("sizes", 2), Family, [square_book(), Book(4, 1, [])])

    def test_12_books_that_are_not_even(self):
        self.assertFails(NotEven(1, (0,)), Family, [square_book(), ODD])
        self.assertFails(NotEven(0, (0,)), Family, [ODD, ODD])
        self.assertFails(NotEven(0, ()), Family, [Book(2, 1, [(0,)]), Book(2, 1, [])])
        later = Book(4, 2, [(1, 2), (1, 3)])
        self.assertFails(NotEven(0, (2,)), Family, [later, ODD])

    def test_1_a_family_copies_its_list(self):
        books = [square_book(), square_book()]
        family = Family(books)
        books.pop()
        self.assertEqual(len(family), 2)
        self.assertEqual(len(books), 1)

    def test_12_replaced(self):
        family = Family([square_book(), Book(4, 2, [])])
        self.assertEqual(family.replaced(1, square_book()), Family([square_book(), square_book()]))
        self.assertEqual(family.replaced(0, Book(4, 2, [])), Family([Book(4, 2, []), Book(4, 2, [])]))
        self.assertEqual(family, Family([square_book(), Book(4, 2, [])]))

    def test_12_replaced_raises_as_family_does(self):
        family = Family([square_book(), Book(4, 2, [])])
        self.assertFails(BadFamily("places", 1), family.replaced, 1, Book(5, 2, []))
        self.assertFails(BadFamily("places", 1), family.replaced, 0, Book(5, 2, []))
        self.assertFails(BadFamily("sizes", 2), family.replaced, 0, Book(4, 3, []))
        self.assertFails(NotEven(1, (0,)), family.replaced, 1, ODD)
        self.assertFails(NotEven(0, (0,)), family.replaced, 0, ODD)
