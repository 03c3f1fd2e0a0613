"""Points 14 and 15."""

from neveralone.books import Book, face_table
from neveralone.errors import BadRule, NotARoom, NotEven
from neveralone.rules import Rule, TableRule
from tests.support import Case, rooms_over, some_even_book, square_book

ODD = Book(4, 2, [(1, 2), (1, 3), (0, 3)])


def full_book():
    """All rooms of size 1 over 6 places: its one face lies in six rooms."""
    return Book(6, 1, rooms_over(6, 1))


def partner_at(rooms, order, room):
    at, many = rooms.index(room), len(rooms)
    if order == "next":
        return rooms[at + 1 if at % 2 == 0 else at - 1]
    if order == "ends":
        return rooms[many - 1 - at]
    return rooms[(at + many // 2) % many]


class Rules(Case):
    def test_14_orders_at_a_face_with_six_rooms(self):
        for order, names in (("next", [1, 0, 3, 2, 5, 4]), ("ends", [5, 4, 3, 2, 1, 0]),
                             ("far", [3, 4, 5, 0, 1, 2])):
            rule = Rule(full_book(), order)
            self.assertEqual([rule((), (place,)) for place in range(6)], [(name,) for name in names])

    def test_14_partners_in_many_books(self):
        for seed in range(5):
            for size in (1, 2, 3):
                book = some_even_book(seed, 6, size)
                for order in Rule.ORDERS:
                    rule, triples = Rule(book, order), []
                    for face, rooms in face_table(book).items():
                        for room in rooms:
                            partner = partner_at(rooms, order, room)
                            self.assertEqual(rule(face, room), partner)
                            triples.append((face, min(room, partner), max(room, partner)))
                    self.assertEqual(rule.pairs(), sorted(set(triples)))

    def test_14_the_default_order_is_next(self):
        self.assertEqual(Rule.ORDERS, ("next", "ends", "far"))
        self.assertEqual(Rule(full_book()).pairs(), Rule(full_book(), "next").pairs())
        self.assertEqual(Rule(full_book()).pairs(), [((), (0,), (1,)), ((), (2,), (3,)), ((), (4,), (5,))])
        self.assertEqual(Rule(square_book(), order="far").book, square_book())

    def test_14_two_each_books_have_one_rule(self):
        first, *others = [Rule(square_book(), order).pairs() for order in Rule.ORDERS]
        self.assertEqual(others, [first, first])
        self.assertEqual(first[0], ((0,), (0, 1), (0, 3)))

    def test_14_rooms_that_are_not_at_the_face(self):
        rule = Rule(square_book())
        for face, room in (((0,), (1, 2)), ((0,), (0, 2)), ((2,), (0, 1)), ((9,), (0, 1)), ((), (0,))):
            self.assertFails(NotARoom(room), rule, face, room)
        self.assertFails(NotARoom((0,)), Rule(Book(3, 1, [])), (), (0,))

    def test_14_faults(self):
        for order in ("", "Next", "any", "nex"):
            self.assertFails(BadRule("order", ()), Rule, square_book(), order)
            self.assertFails(BadRule("order", ()), Rule, ODD, order)
        self.assertFails(NotEven(0, (0,)), Rule, ODD, "far")
        self.assertFails(NotEven(0, ()), Rule, Book(3, 1, [(1,)]))

    def test_1_lists_of_pairs_are_new(self):
        rule = Rule(square_book())
        kept = rule.pairs()
        rule.pairs().clear()
        self.assertEqual(rule.pairs(), kept)
        self.assertEqual(Rule(Book(4, 2, [])).pairs(), [])


class TableRules(Case):
    PAIRS = [((), (4,), (0,)), ((), (3,), (5,)), ((), (2,), (1,))]

    def test_15_triples_and_their_rooms_in_any_order(self):
        rule = TableRule(full_book(), self.PAIRS)
        self.assertIsInstance(rule, Rule)
        self.assertEqual(rule.book, full_book())
        self.assertEqual(rule.pairs(), [((), (0,), (4,)), ((), (1,), (2,)), ((), (3,), (5,))])
        self.assertEqual([rule((), (place,)) for place in range(6)], [(4,), (2,), (1,), (5,), (0,), (3,)])
        self.assertFails(NotARoom((6,)), rule, (), (6,))
        self.assertFails(NotARoom((0,)), rule, (0,), (0,))

    def test_15_a_rule_listed_again_is_the_same_rule(self):
        for order in Rule.ORDERS:
            rule = Rule(some_even_book(3, 6, 2), order)
            again = TableRule(rule.book, tuple(rule.pairs()[::-1]))
            self.assertEqual(again.pairs(), rule.pairs())

    def test_15_each_fault_with_its_face(self):
        book = square_book()
        whole = Rule(book).pairs()
        for triple, fault in ((((9,), (0, 1), (0, 1)), "face"), (((), (0, 1), (0, 3)), "face"),
                              (((1,), (0, 1), (0, 3)), "room"), (((1,), (0, 3), (0, 3)), "room"),
                              (((1,), (0, 1), (1, 3)), "room"), (((1,), (1, 0), (1, 2)), "room"),
                              (((1,), (0, 1), (0, 1)), "same"), (((0,), (0, 1), (0, 1)), "same"),
                              (((0,), (0, 3), (0, 1)), "again")):
            self.assertFails(BadRule(fault, triple[0]), TableRule, book, [whole[0], triple])
            self.assertFails(BadRule(fault, triple[0]), TableRule, book,
                             [whole[0], triple, ((8,), (0, 1), (0, 1))])

    def test_15_again_for_either_room(self):
        for triple in (((), (0,), (2,)), ((), (2,), (0,)), ((), (1,), (2,)), ((), (3,), (1,))):
            self.assertFails(BadRule("again", ()), TableRule, full_book(), [((), (0,), (1,)), triple])

    def test_15_left(self):
        whole = Rule(square_book()).pairs()
        for at in range(4):
            self.assertFails(BadRule("left", (at,)), TableRule, square_book(), whole[:at] + whole[at + 1:])
            self.assertFails(BadRule("left", (at,)), TableRule, square_book(), whole[:at])
        self.assertFails(BadRule("left", ()), TableRule, full_book(), self.PAIRS[1:])
        self.assertEqual(TableRule(Book(4, 2, []), []).pairs(), [])

    def test_15_not_even_comes_first(self):
        self.assertFails(NotEven(0, (0,)), TableRule, ODD, [((9,), (0, 1), (0, 1))])

    def test_1_a_table_rule_copies_its_list(self):
        pairs = list(self.PAIRS)
        rule = TableRule(full_book(), pairs)
        self.assertEqual(pairs, self.PAIRS)
        pairs.clear()
        rule.pairs().clear()
        self.assertEqual(len(rule.pairs()), 3)
        self.assertEqual(rule((), (0,)), (4,))
