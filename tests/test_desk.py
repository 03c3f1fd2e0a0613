"""Points 132 to 141."""

import itertools
import random
from unittest import mock

from neveralone import deeds
from neveralone.books import Book
from neveralone.desk import Desk
from neveralone.errors import BadBook, BadDeed, BadFamily, BadText, TooMany
from neveralone.families import Family
from neveralone.filling import book_number, even_book_count, numbered_book
from neveralone.makers import boundary_book
from neveralone.naming import renamed, renamed_row
from neveralone.papers import PathPaper, paper_of
from neveralone.partitions import list_partitions
from neveralone.paths import exchanges
from tests.support import Case, ones, partitions_of, rooms_over, squares

EXAMPLE = "desk 4 2 2\ntoggle 0 0 1 2\ntoggle 1 1 2 3\nkeep 3 0 1 | 2 3"
TOGGLES = (("toggle", 0, (0, 1, 2)), ("toggle", 1, (1, 2, 3)))
KEEP = ("keep", 3, ((0, 1), (2, 3)))
LONGEST, TOO_LONG = "9" * 60, "1" + "0" * 60


def example():
    desk = Desk(4, (2, 2))
    desk.do_all(*TOGGLES, KEEP)
    return desk


def square_desk():
    """A desk with the example's squares of DOC.md, and a desk of single places."""
    desk = Desk(4, [2, 2])
    for at in (0, 1):
        desk.do_all(("toggle", at, (0, 1, 2)), ("toggle", at, (0, 2, 3)))
    return desk


def seen_of(desk):
    """All that can be seen of a desk, also what can be undone and done again."""
    told = [desk.books, desk.current, desk.journal, desk.papers(), desk.text(), desk.report(), list(desk)]
    undone = []
    for walk in (desk.redo, desk.undo):
        steps = []
        while True:
            try:
                steps.append(walk())
            except BadDeed:
                break
            steps.append(desk.books)
        undone.append(steps)
    for _ in range(len(undone[1]) // 2 - len(undone[0]) // 2):
        desk.redo()
    return told + undone


def some_deed(chance, desk):
    """A deed that may or may not be done on a desk."""
    places, word = desk.books[0].places, chance.choice(("toggle", "toggle", "number", "rename", "keep", "keep", "drop"))
    at = chance.randint(0, len(desk))
    size = desk.books[min(at, len(desk) - 1)].size
    if word == "toggle":
        return (word, at, tuple(sorted(chance.sample(range(places), min(places, size + 1)))))
    if word == "number":
        return (word, at, chance.randrange(even_book_count(places, size) + 1))
    if word == "rename":
        return (word, tuple(chance.sample(range(places), places)))
    if word == "keep":
        rows = list_partitions(desk.current, most=10 ** 6) or [()]
        return (word, chance.randrange(places), chance.choice(rows))
    return (word, chance.randint(0, 2))


def walked_desk(seed, sizes, many=25):
    """A desk after some deeds by chance."""
    chance = random.Random(f"desk {seed} {sizes}")
    desk = Desk(sum(sizes), sizes)
    for _ in range(many):
        try:
            desk.do(some_deed(chance, desk))
        except BadDeed:
            pass
    return desk


def some_desks():
    return [walked_desk(seed, sizes) for sizes in ((2, 2), (1, 2), (2, 1, 2), (3, 3), (2, 2, 2), (1, 1, 1, 1), (4, 2), (3,), (8,), (4, 4))
            for seed in range(3)]


class Making(Case):
    def test_132_books_without_rooms(self):
        for sizes in ([2, 2], (4,), (1, 1), (3, 5), (1,) * 8, [8], (1,)):
            desk = Desk(sum(sizes), sizes)
            self.assertEqual(desk.books, tuple(Book(sum(sizes), size, []) for size in sizes))
            self.assertIs(type(desk.books), tuple)
            self.assertEqual((len(desk), list(desk)), (len(sizes), list(desk.books)))
            self.assertEqual((desk.journal, desk.papers(), desk.standing(), desk.number()), ((), [], [], 0))
        self.assertEqual(Desk.MOST_PLACES, 8)

    def test_132_nine_places(self):
        for sizes in ([8], [9], [], [0], [4, 5], [-1, 99]):
            self.assertFails(TooMany("places", 8), Desk, 9, sizes)
            self.assertFails(TooMany("places", 8), Desk, 10 ** 40, tuple(sizes))

    def test_132_sizes_out_of_bounds(self):
        for sizes in ([0], [-1], [5], [2, 0, 9], [2, 2, 0], [4, -3], [5, 2], [2, 10 ** 40]):
            self.assertFails(BadBook("size", 0), Desk, 4, sizes)
            self.assertFails(BadBook("size", 0), Desk, 4, tuple(sizes))
        for places in (0, -1, -10 ** 40):
            for sizes in ([1], [0], [2, -2]):
                self.assertFails(BadBook("places", 0), Desk, places, sizes)

    def test_132_no_sizes_and_sizes_that_do_not_add_up(self):
        for places in (0, -3, 1, 8):
            self.assertFails(BadFamily("none", 0), Desk, places, [])
        for sizes in ([1], [2, 1], [4, 4], [1, 1, 1], [2, 2, 2]):
            self.assertFails(BadFamily("sizes", len(sizes)), Desk, 4, sizes)

    def test_1_sizes_are_copied(self):
        sizes = [2, 2]
        desk = Desk(4, sizes)
        sizes.append(9)
        self.assertEqual((len(desk), desk.text()), (2, "desk 4 2 2"))


class Deeds(Case):
    def test_133_toggle(self):
        desk = Desk(5, (2, 3))
        desk.do(("toggle", 0, (0, 2, 4)))
        self.assertEqual(desk.books, (Book(5, 2, [(0, 2), (0, 4), (2, 4)]), Book(5, 3, [])))
        desk.do(["toggle", 1, [0, 1, 2, 3]])
        self.assertEqual(desk.books[1], boundary_book(5, (0, 1, 2, 3)))
        desk.do(("toggle", 0, (0, 1, 2)))
        self.assertEqual(desk.books[0], Book(5, 2, [(0, 4), (2, 4), (0, 1), (1, 2)]))
        desk.do(("toggle", 0, (0, 2, 4)))
        self.assertEqual(desk.books[0], boundary_book(5, (0, 1, 2)))
        self.assertEqual(desk.journal, (("toggle", 0, (0, 2, 4)), ("toggle", 1, (0, 1, 2, 3)), ("toggle", 0, (0, 1, 2)), ("toggle", 0, (0, 2, 4))))

    def test_133_number(self):
        for places, sizes in ((4, (2, 2)), (5, (1, 4)), (3, (3,))):
            for at, size in enumerate(sizes):
                for number in range(min(20, even_book_count(places, size))):
                    desk = Desk(places, sizes)
                    desk.do(("number", at, number))
                    self.assertEqual(desk[at], numbered_book(places, size, number))
                    self.assertEqual(book_number(desk[at]), number)
                    self.assertEqual([len(book) for k, book in enumerate(desk) if k != at], [0] * (len(sizes) - 1))

    def test_133_rename(self):
        for images in itertools.permutations(range(4)):
            desk = example()
            before, paper = desk.books, desk.papers()[0]
            desk.do(("rename", list(images)))
            self.assertEqual(desk.books, tuple(renamed(book, images) for book in before))
            self.assertEqual(desk.papers(), [PathPaper(Family(desk.books), images[paper.target], renamed_row(paper.start, images),
                                                       [(at, images[left], images[came]) for at, left, came in paper.steps])])
            self.assertEqual(desk.journal[-1], ("rename", images))

    def test_133_keep(self):
        desk = square_desk()
        for target in range(4):
            for row in partitions_of(desk.current):
                desk.do(("keep", target, list(row)))
                paper = desk.papers()[-1]
                self.assertEqual(paper, paper_of(desk.current, row, target))
                self.assertEqual(paper.steps, tuple(exchanges(desk.current, row, target)))
        self.assertEqual(len(desk.papers()), 16)
        self.assertEqual(example().papers()[0].steps, ((1, 3, 1), (0, 1, 2), (1, 2, 3)))

    def test_133_drop(self):
        desk = square_desk()
        for target in range(3):
            desk.do(("keep", target, ((0, 1), (2, 3))))
        desk.do(("drop", 1))
        self.assertEqual([paper.target for paper in desk.papers()], [0, 2])
        desk.do(["drop", 0])
        self.assertEqual([paper.target for paper in desk.papers()], [2])
        desk.do(("drop", 0))
        self.assertEqual(desk.papers(), [])
        self.assertFails(BadDeed("kept"), desk.do, ("drop", 0))

    def test_133_books_stay_even(self):
        for desk in some_desks():
            self.assertTrue(all(book.is_even for book in desk))
            self.assertEqual(desk.current, Family(desk.books))
            self.assertEqual(desk.number(), len(partitions_of(desk.current)) if desk.books[0].places < 8 else desk.number())


class Faults(Case):
    def assertBad(self, fault, deed, desk=None):
        """The deed raises the fault, alone, as a list and within do_all, and it changes nothing."""
        desk = desk or example()
        desk.undo()
        before = seen_of(desk)
        right = ("number", 0, 1)
        for given in (deed, list(deed), [list(part) if isinstance(part, tuple) and deed[0] != "keep" else part for part in deed]):
            self.assertFails(BadDeed(fault), desk.do, given)
            self.assertFails(BadDeed(fault), desk.do_all, given)
            self.assertEqual(seen_of(desk), before)
            self.assertFails(BadDeed(fault), desk.do_all, right, given, right)
            self.assertFails(BadDeed(fault), desk.do_all, right, given, ())
            self.assertEqual(seen_of(desk), before)

    def test_134_kind(self):
        for deed in ((), ("",), ("Toggle", 0, (0, 1, 2)), ("undo",), ("toggles", 0, (0, 1, 2)), ("keep 3", 3, ()), (" drop", 0)):
            self.assertBad("kind", deed)
        for deed in (("toggle",), ("toggle", 9), ("toggle", 9, (), 0), ("number",), ("number", 9), ("number", 9, -1, 0), ("rename",),
                     ("rename", (), ()), ("keep",), ("keep", 9), ("keep", 9, (), 0), ("drop",), ("drop", 9, 0)):
            self.assertBad("kind", deed)

    def test_134_book(self):
        for at in (-1, 2, 10 ** 40, -2):
            self.assertBad("book", ("toggle", at, (0, 1, 2)))
            self.assertBad("book", ("toggle", at, ()))
            self.assertBad("book", ("number", at, 0))
            self.assertBad("book", ("number", at, -1))

    def test_134_corners(self):
        for corners in ((), (0, 1), (0, 1, 2, 3), (0, 1, 4), (-1, 0, 1), (0, 1, 10 ** 40), (0, 1, 1), (0, 0, 1), (2, 1, 0), (0, 2, 1), (1, 0, 2)):
            self.assertBad("corners", ("toggle", 0, corners))
            self.assertBad("corners", ("toggle", 1, corners))
        full = Desk(3, [3])
        for corners in ((0, 1, 2), (0, 1, 2, 3), (), (0, 1, 2, 2)):
            self.assertFails(BadDeed("corners"), full.do, ("toggle", 0, corners))

    def test_134_number(self):
        for number in (-1, 8, 10 ** 60, -10 ** 60):
            self.assertBad("number", ("number", 0, number))
            self.assertBad("number", ("number", 1, number))
        full = Desk(3, [3])
        full.do(("number", 0, 0))
        self.assertFails(BadDeed("number"), full.do, ("number", 0, 1))
        most = Desk(8, [4, 4])
        most.do(("number", 0, 2 ** 35 - 1))
        self.assertFails(BadDeed("number"), most.do, ("number", 1, 2 ** 35))

    def test_134_images(self):
        for images in ((), (0, 1, 2), (0, 1, 2, 3, 4), (0, 1, 2, 2), (0, 1, 2, 4), (-1, 0, 1, 2), (1, 2, 3, 4), (0, 1, 2, 10 ** 40), (3, 3, 3, 3)):
            self.assertBad("images", ("rename", images))

    def test_134_target_ahead_of_row(self):
        for target in (-1, 4, 10 ** 40):
            self.assertBad("target", ("keep", target, ((0, 1), (2, 3))))
            self.assertBad("target", ("keep", target, ()))

    def test_134_rows_that_are_no_partition(self):
        for row in ((), ((0, 1),), ((0, 1), (2, 3), ()), ((0, 1), (3, 2)), ((2, 3), (0, 1)), ((0, 1), (1, 2)), ((0, 9), (2, 3)), ((), ())):
            for target in (0, 3):
                self.assertBad("row", ("keep", target, row))
        self.assertFails(BadDeed("row"), Desk(4, [2, 2]).do, KEEP)
        self.assertFails(BadDeed("row"), Desk(3, [3]).do, ("keep", 0, ((0, 1, 2),)))

    def test_134_kept_paths_that_there_are_not(self):
        for index in (0, 1, -1, 10 ** 40):
            self.assertBad("kept", ("drop", index))
        for index in (1, -1, 2):
            self.assertFails(BadDeed("kept"), example().do, ("drop", index))

    def test_134_too_many_exchanges(self):
        # No desk has a path of more than 20000 exchanges, so the bound is met in place of a path.
        desk = square_desk()
        desk.undo()
        desk.redo()
        desk.undo()
        desk.do(("toggle", 1, (0, 2, 3)))
        desk.undo()
        desk.redo()
        before = seen_of(desk)
        with mock.patch.object(deeds, "exchanges", lambda family, row, target: exchanges(family, row, target, most=1)):
            for target in range(4):
                self.assertFails(TooMany("exchanges", 1), desk.do, ("keep", target, ((0, 1), (2, 3))))
                self.assertFails(TooMany("exchanges", 1), desk.do_all, ("number", 0, 7), ("number", 0, 5), ("keep", target, ((0, 1), (2, 3))))
                self.assertFails(BadDeed("row"), desk.do, ("keep", target, ((0, 1), (1, 2))))
            self.assertFails(TooMany("exchanges", 1), Desk.read, EXAMPLE)
            self.assertFails(TooMany("exchanges", 1), Desk.read, EXAMPLE + "\nfaulty")
        self.assertEqual(seen_of(desk), before)


class UndoAndRedo(Case):
    def test_135_at_the_ends(self):
        desk = Desk(4, [2, 2])
        self.assertFails(BadDeed("undo"), desk.undo)
        self.assertFails(BadDeed("redo"), desk.redo)
        desk.do(TOGGLES[0])
        self.assertFails(BadDeed("redo"), desk.redo)
        self.assertEqual(desk.undo(), TOGGLES[0])
        self.assertFails(BadDeed("undo"), desk.undo)
        self.assertEqual(desk.redo(), TOGGLES[0])
        self.assertFails(BadDeed("redo"), desk.redo)
        self.assertEqual(desk.journal, TOGGLES[:1])

    def test_135_everything_back_and_forth(self):
        for desk in some_desks():
            deeds_done = desk.journal
            end = (desk.books, desk.papers(), desk.text())
            states = [end]
            for deed in deeds_done[::-1]:
                self.assertEqual(desk.undo(), deed)
                states.append((desk.books, desk.papers(), desk.text()))
            self.assertEqual(desk.journal, ())
            self.assertEqual(states[-1][0], Desk(desk.books[0].places, [book.size for book in desk]).books)
            self.assertFails(BadDeed("undo"), desk.undo)
            for deed, state in zip(deeds_done, states[-2::-1]):
                self.assertEqual(desk.redo(), deed)
                self.assertEqual((desk.books, desk.papers(), desk.text()), state)
            self.assertFails(BadDeed("redo"), desk.redo)

    def test_135_a_new_deed_ends_what_could_be_done_again(self):
        desk = example()
        desk.undo()
        desk.undo()
        desk.do(("number", 0, 3))
        self.assertFails(BadDeed("redo"), desk.redo)
        self.assertEqual(desk.journal, (TOGGLES[0], ("number", 0, 3)))
        self.assertEqual(desk.undo(), ("number", 0, 3))
        self.assertEqual(desk.undo(), TOGGLES[0])
        self.assertEqual([desk.redo(), desk.redo()], [TOGGLES[0], ("number", 0, 3)])
        self.assertFails(BadDeed("redo"), desk.redo)

    def test_135_do_all_with_none_one_and_several_deeds(self):
        for many in range(4):
            new = [("number", 1, number) for number in range(1, many + 1)]
            desk = example()
            desk.undo()
            desk.undo()
            self.assertIsNone(desk.do_all(*new))
            if many == 0:
                self.assertEqual([desk.redo(), desk.redo()], [TOGGLES[1], KEEP])
                self.assertEqual(desk.text(), EXAMPLE)
            else:
                self.assertFails(BadDeed("redo"), desk.redo)
                self.assertEqual(desk.journal, TOGGLES[:1] + tuple(new))
                self.assertEqual([desk.undo() for _ in range(many + 1)], new[::-1] + [TOGGLES[0]])
                self.assertEqual([desk.redo() for _ in range(many + 1)], [TOGGLES[0]] + new)

    def test_135_a_failing_deed_at_each_place(self):
        right = [("number", 1, 7), ("rename", (1, 0, 3, 2)), ("toggle", 0, (0, 1, 2)), ("number", 0, 5)]
        for wrong, fault in ((("drop", 0), "kept"), (("toggle", 0, (0, 1)), "corners"), ((), "kind"), (("rename", (0, 0, 1, 2)), "images")):
            for at in range(len(right) + 1):
                desk = example()
                desk.undo()
                before = seen_of(desk)
                self.assertFails(BadDeed(fault), desk.do_all, *right[:at], wrong, *right[at:])
                self.assertEqual(seen_of(desk), before)
                self.assertEqual(desk.redo(), KEEP)
                self.assertEqual(desk.text(), EXAMPLE)

    def test_135_do_and_do_all_return_none(self):
        desk = Desk(4, [2, 2])
        self.assertIsNone(desk.do(TOGGLES[0]))
        self.assertIsNone(desk.do_all(TOGGLES[1], KEEP))
        self.assertIsNone(desk.do_all())
        self.assertEqual(desk.text(), EXAMPLE)

    def test_135_a_deed_may_need_the_deeds_before_it(self):
        desk = Desk(4, [2, 2])
        self.assertFails(BadDeed("row"), desk.do_all, KEEP, *TOGGLES)
        self.assertFails(BadDeed("kept"), desk.do_all, *TOGGLES, ("drop", 0), KEEP)
        desk.do_all(*TOGGLES, KEEP, ("drop", 0))
        self.assertEqual((desk.papers(), len(desk.journal)), ([], 4))


class Journal(Case):
    def test_136_deeds_are_tuples_with_tuples(self):
        desk = Desk(4, [2, 2])
        given = [["toggle", 0, [0, 1, 2]], ["toggle", 1, [1, 2, 3]], ["keep", 3, [(0, 1), (2, 3)]], ["rename", [1, 0, 2, 3]],
                 ["number", 0, 4], ["drop", 0]]
        wanted = TOGGLES + (KEEP, ("rename", (1, 0, 2, 3)), ("number", 0, 4), ("drop", 0))
        desk.do_all(*given[:3])
        for deed in given[3:]:
            desk.do(deed)
        for deed in given:
            for part in deed:
                if isinstance(part, list):
                    part.clear()
            deed.clear()
        self.assertEqual(desk.journal, wanted)
        self.assertEqual([type(part) for deed in desk.journal for part in (deed, *deed) if not isinstance(part, (str, int))], [tuple] * 10)
        self.assertEqual([desk.undo() for _ in given], list(wanted[::-1]))
        self.assertEqual([desk.redo() for _ in given], list(wanted))
        self.assertEqual(desk.journal, wanted)

    def test_136_undone_deeds_are_not_in_it(self):
        desk = example()
        for many in (2, 1, 0):
            desk.undo()
            self.assertEqual(desk.journal, (TOGGLES + (KEEP,))[:many])
        self.assertIs(type(desk.journal), tuple)

    def test_137_items(self):
        desk = example()
        self.assertEqual([desk[0], desk[1]], list(desk.books))
        desk[1] = 5
        self.assertEqual(desk[1], numbered_book(4, 2, 5))
        self.assertEqual(desk.journal[-1], ("number", 1, 5))
        self.assertEqual(desk.undo(), ("number", 1, 5))
        self.assertEqual(desk.text(), EXAMPLE)

    def test_137_indexes_that_no_book_has(self):
        desk = example()
        desk.undo()
        before = seen_of(desk)
        for at in (-1, 2, -2, 10 ** 40):
            with self.assertRaises(BadDeed) as caught:
                desk[at]
            self.assertEqual(caught.exception.fault, "book")
            for number in (0, -1, 10 ** 60):
                with self.assertRaises(BadDeed) as caught:
                    desk[at] = number
                self.assertEqual(caught.exception.fault, "book")
        for number in (-1, 8):
            with self.assertRaises(BadDeed) as caught:
                desk[0] = number
            self.assertEqual(caught.exception.fault, "number")
        self.assertEqual(seen_of(desk), before)

    def test_137_desks_do_not_change_each_other(self):
        first, second = example(), example()
        third = Desk.read(first.text())
        before = seen_of(second)
        first.undo()
        first[0] = 7
        first.do(("rename", (3, 2, 1, 0)))
        self.assertEqual(seen_of(second), before)
        self.assertEqual(seen_of(third), before)

    def test_1_returned_lists_are_new(self):
        desk = example()
        before = seen_of(desk)
        for call in (desk.papers, desk.standing, desk.report):
            call().clear()
        self.assertEqual(seen_of(desk), before)


class Standing(Case):
    def check_standing(self, desk):
        """Each answer as the paper and the path of the rules tell it."""
        told = []
        for paper in desk.papers():
            self.assertEqual(paper.family, desk.current)
            try:
                row = paper.end()
            except Exception as error:
                told.append(("lost", error.step, error.fault))
                continue
            rows = partitions_of(desk.current)
            self.assertTrue(row in rows and paper.start in rows and row != paper.start)
            same = paper.steps == tuple(exchanges(desk.current, paper.start, paper.target))
            told.append(("same" if same else "other", row))
        self.assertEqual(desk.standing(), told)
        return [answer[0] for answer in told]

    def test_138_kept_paths_are_the_same_at_first(self):
        desk = example()
        self.assertEqual(desk.standing(), [("same", ((0, 2), (1, 3)))])
        self.assertEqual(self.check_standing(square_desk()), [])

    def test_138_behind_a_toggle_that_takes_a_room_of_the_start(self):
        desk = example()
        desk.do(("toggle", 0, (0, 1, 3)))
        self.assertEqual(desk.standing(), [("lost", 0, "start")])
        desk.undo()
        self.assertEqual(desk.standing(), [("same", ((0, 2), (1, 3)))])
        desk.redo()
        self.assertEqual(desk.standing(), [("lost", 0, "start")])

    def test_138_behind_a_toggle_that_breaks_a_step(self):
        desk = square_desk()
        desk.do(("keep", 0, ((0, 1), (2, 3))))
        self.assertEqual(desk.papers()[0].steps, ((0, 0, 2), (1, 2, 0)))
        # Without (1, 2) the first step has no room; without (0, 3) the second one.
        desk.do(("toggle", 0, (1, 2, 3)))
        self.assertEqual(desk.standing(), [("lost", 1, "room")])
        desk.undo()
        desk.do(("toggle", 1, (0, 1, 3)))
        self.assertEqual(desk.standing(), [("lost", 2, "room")])
        desk.do(("toggle", 1, (0, 1, 3)))
        self.assertEqual(self.check_standing(desk), ["same"])

    def test_138_behind_a_toggle_that_changes_the_path_of_the_rules_alone(self):
        desk = Desk.read("desk 5 2 3\nnumber 0 41\nnumber 1 11\nkeep 4 1 2 | 0 3 4")
        self.assertEqual(desk.standing(), [("same", ((2, 3), (0, 1, 4)))])
        desk.do(("toggle", 0, (0, 2, 4)))
        self.assertEqual(desk.standing(), [("other", ((2, 3), (0, 1, 4)))])
        self.assertEqual(desk.papers()[0].steps, ((1, 4, 1), (0, 1, 3), (1, 3, 4)))
        self.assertNotEqual(exchanges(desk.current, ((1, 2), (0, 3, 4)), 4), list(desk.papers()[0].steps))
        # A path that is kept now is the new one of the rules.
        desk.do(("keep", 4, ((1, 2), (0, 3, 4))))
        self.assertEqual(self.check_standing(desk), ["other", "same"])
        desk.undo()
        desk.undo()
        self.assertEqual(self.check_standing(desk), ["same"])
        self.assertEqual(desk.redo(), ("toggle", 0, (0, 2, 4)))
        self.assertEqual(self.check_standing(desk), ["other"])

    def test_138_every_toggle_behind_a_kept_path(self):
        seen = set()
        for numbers in ((41, 11), (27, 1), (61, 13), (63, 9)):
            desk = Desk(5, [2, 3])
            desk[0], desk[1] = numbers
            for row in partitions_of(desk.current)[:3]:
                desk.do_all(("keep", 0, row), ("keep", 4, row))
            for at, size in ((0, 3), (1, 4)):
                for corners in rooms_over(5, size):
                    desk.do(("toggle", at, corners))
                    seen |= set(self.check_standing(desk))
                    desk.undo()
        self.assertEqual(seen, {"same", "other", "lost"})

    def test_138_behind_renames(self):
        seen = set()
        for images in itertools.permutations(range(5)):
            desk = Desk(5, [2, 3])
            desk.do_all(("number", 0, 61), ("number", 1, 13))
            row = partitions_of(desk.current)[0]
            desk.do_all(("keep", 0, row), ("keep", 3, row), ("rename", images))
            seen |= set(self.check_standing(desk))
            desk.undo()
            self.assertEqual([answer[0] for answer in desk.standing()], ["same", "same"])
        self.assertEqual(seen, {"same", "other"})

    def test_138_on_desks_after_many_deeds(self):
        seen = [answer for desk in some_desks() if desk.books[0].places < 8 for answer in self.check_standing(desk)]
        self.assertTrue({"same", "lost"} <= set(seen))

    def test_138_too_many_exchanges(self):
        desk = example()
        with mock.patch("neveralone.papers.exchanges", lambda family, row, target, rules: exchanges(family, row, target, rules, most=2)):
            self.assertFails(TooMany("exchanges", 2), desk.standing)
            desk.do(("toggle", 0, (0, 1, 3)))
            self.assertEqual(desk.standing(), [("lost", 0, "start")])


class Texts(Case):
    def test_139_the_example(self):
        self.assertEqual(example().text(), EXAMPLE)
        desk = Desk.read(EXAMPLE)
        self.assertEqual(seen_of(desk), seen_of(example()))
        self.assertEqual([(paper.target, paper.start, paper.steps) for paper in desk.papers()],
                         [(3, ((0, 1), (2, 3)), ((1, 3, 1), (0, 1, 2), (1, 2, 3)))])

    def test_139_140_there_and_back(self):
        for desk in some_desks():
            text = desk.text()
            again = Desk.read(text)
            self.assertEqual(seen_of(again), seen_of(desk))
            self.assertEqual(again.text(), text)
            self.assertFails(BadDeed("redo"), again.redo)
        self.assertEqual(Desk.read("desk 4 2 2").text(), "desk 4 2 2")
        self.assertEqual(Desk.read("desk 1 1").books, (Book(1, 1, []),))

    def test_139_each_word(self):
        desk = Desk(4, [2, 2])
        desk.do_all(("number", 0, 7), *TOGGLES, ("number", 0, 1), KEEP, ("rename", (3, 1, 0, 2)), ("drop", 0))
        self.assertEqual(desk.text(), "desk 4 2 2\nnumber 0 7\ntoggle 0 0 1 2\ntoggle 1 1 2 3\nnumber 0 1\nkeep 3 0 1 | 2 3\nrename 3 1 0 2\ndrop 0")

    def test_139_undone_deeds_are_not_in_the_text(self):
        desk = example()
        desk.undo()
        self.assertEqual(desk.text(), EXAMPLE.rpartition("\n")[0])
        again = Desk.read(desk.text())
        self.assertFails(BadDeed("redo"), again.redo)
        self.assertEqual(desk.redo(), KEEP)
        self.assertEqual(again.undo(), TOGGLES[1])

    def test_140_the_head(self):
        for head in ("", "desk", "desk 4", " ", "Desk 4 2 2", "book 4 2", "4 2 2", " desk 4 2 2", "desks 4 2 2", "desk 8", "toggle 0 0 1 2",
                     "desk\t4 2 2", "desk x"):
            for rest in ("", "\n", "\nx", EXAMPLE[10:]):
                self.assertFails(BadText(1, "head"), Desk.read, head + rest)

    def test_140_numbers_in_the_head(self):
        for head in ("desk x 2", "desk 4 2 2 ", "desk  4 2 2", "desk 4  2 2", "desk 4 ", "desk 04 2 2", "desk 4 +2 2", "desk -4 2 2", "desk 4 2 -2",
                     "desk 4 2.0 2", f"desk {TOO_LONG} 2", f"desk 99 {TOO_LONG}", "desk  ", "desk 99 0 x"):
            for rest in ("", "\n", "\nx"):
                self.assertFails(BadText(1, "number"), Desk.read, head + rest)

    def test_140_sizes_in_the_head(self):
        for head in ("desk 9 9", "desk 0 0", "desk 0 1", "desk 4 0", "desk 4 5", "desk 4 2 1", "desk 4 2 2 2", f"desk {LONGEST} 1",
                     f"desk 4 {LONGEST}", "desk 4 2 2 0", "desk 12 6 6"):
            for rest in ("", "\n", "\nx"):
                self.assertFails(BadText(1, "sizes"), Desk.read, head + rest)

    def assertBadLine(self, fault, line):
        """The line has the fault behind the head, behind other lines, and ahead of faulty lines."""
        self.assertFails(BadText(4, fault), Desk.read, "\n".join(EXAMPLE.split("\n")[:3] + [line]))
        self.assertFails(BadText(5, fault), Desk.read, f"{EXAMPLE}\n{line}")
        self.assertFails(BadText(5, fault), Desk.read, f"{EXAMPLE}\n{line}\nx\ndrop 99")
        self.assertFails(BadText(2, fault), Desk.read, f"desk 4 2 2\n{line}\n{line}")

    def test_140_deed(self):
        for line in ("", " ", "x", "desk 4 2 2", "toggle", "toggle 0", "keep", "keep 3", "rename", "number", "number 0", "number 0 0 0", "drop",
                     "drop 0 0", "Toggle 0 0 1 2", " toggle 0 0 1 2", "undo", "number 0 0 ", "drop 0 ", "drop  0", "number  0 0", "toggle x"):
            self.assertBadLine("deed", line)
        self.assertFails(BadText(5, "deed"), Desk.read, EXAMPLE + "\n")
        self.assertFails(BadText(5, "deed"), Desk.read, EXAMPLE + "\n\n")
        self.assertFails(BadText(3, "deed"), Desk.read, EXAMPLE.replace("\ntoggle 1", "\n\ntoggle 1"))

    def test_140_number(self):
        for line in ("toggle x 0 1 2", "toggle 0 0 1 x", "toggle 0 0 1 2 ", "toggle  0 0 1 2", "toggle 0 0  1 2", "number x 0", "number 0 -1",
                     "number 0 ", "rename ", "rename 0 1 2 3 ", "rename 0 1 2 x", "keep x 0 1 | 2 3", "keep  0 1 | 2 3", "drop x", "drop ", "drop -1",
                     f"number 0 {TOO_LONG}", f"drop {TOO_LONG}", "number 00 0", "keep -1 x", "toggle 9 9 x"):
            self.assertBadLine("number", line)

    def test_140_row(self):
        for line in ("keep 3 ", "keep 3  ", "keep 3 x", "keep 3 0 1 |2 3", "keep 3 0 1 | 2 3 ", "keep 3  0 1 | 2 3", "keep 3 1 0 | 2 3", "keep 3 0 12",
                     "keep 99 x", "keep 3 0 1 | ", f"keep {LONGEST} 0 0", f"keep 3 {TOO_LONG}", "keep 3 0 1 |  2 3"):
            self.assertBadLine("row", line)

    def test_140_fails(self):
        for line in ("toggle 2 0 1 2", "toggle 0 0 1", "toggle 0 0 1 2 3", "toggle 0 0 1 4", "toggle 0 2 1 0", "number 2 0", "number 0 8",
                     "rename 0", "rename 0 1 2", "rename 0 1 2 3 4", "rename 0 0 1 2", "keep 4 0 1 | 2 3", "keep 3 0 1", "keep 3 0 1 | 1 2",
                     "keep 3 0 1 | 2 3 | 0", "keep 3 0 11 | 2 3", "drop 1", "drop 99", f"number 0 {LONGEST}", f"toggle {LONGEST} 0 1 2",
                     f"rename 0 1 2 {LONGEST}", f"keep {LONGEST} 0 1 | 2 3", f"drop {LONGEST}"):
            self.assertBadLine("fails", line)
        self.assertFails(BadText(4, "fails"), Desk.read, EXAMPLE.replace("keep 3 0 1 | 2 3", "drop 0"))
        self.assertFails(BadText(2, "fails"), Desk.read, "desk 4 2 2\nkeep 3 0 1 | 2 3\ntoggle 0 0 1 2")

    def test_140_each_deed_is_done_before_the_next_line_is_read(self):
        self.assertFails(BadText(3, "fails"), Desk.read, "desk 4 2 2\nnumber 0 7\nnumber 0 8\n\n")
        self.assertFails(BadText(3, "number"), Desk.read, "desk 4 2 2\nnumber 0 7\nnumber 0 x\nnumber 0 8")
        self.assertEqual(Desk.read(EXAMPLE + "\ndrop 0\nkeep 0 0 1 | 2 3").papers()[0].target, 0)

    def test_140_exactly_the_texts_of_desks(self):
        chance = random.Random("texts")
        accepted = 0
        texts = [desk.text() for desk in some_desks()[:12]] + [EXAMPLE]
        for text in texts:
            for _ in range(150):
                at = chance.randrange(len(text) + 1)
                changed = text[:at] + chance.choice(("", " ", "\n", "0", "1", "2", "|", " | ", "x", "-")) + text[at + chance.randint(0, 1):]
                try:
                    desk = Desk.read(changed)
                except BadText as error:
                    self.assertTrue(1 <= error.line <= changed.count("\n") + 1)
                    continue
                self.assertEqual(desk.text(), changed)
                accepted += 1
        self.assertGreater(accepted, 50)


class Report(Case):
    def test_141_the_lines(self):
        self.assertEqual(example().report(), ["  at  size  rooms        number",
                                              "   0     2      3             1",
                                              "   1     2      3             7",
                                              "partitions                    2"])

    def test_141_a_desk_without_rooms(self):
        self.assertEqual(Desk(8, [3, 5]).report(), ["  at  size  rooms        number",
                                                    "   0     3      0             0",
                                                    "   1     5      0             0",
                                                    "partitions                    0"])

    def test_141_the_greatest_numbers(self):
        desk = Desk(8, [4, 4])
        desk[0] = 2 ** 35 - 1
        desk[1] = 2 ** 35 - 1
        rooms = len(numbered_book(8, 4, 2 ** 35 - 1))
        self.assertEqual(desk.report()[1], f"   0     4     {rooms}   34359738367")
        self.assertEqual(desk.report()[-1], f"partitions{len(partitions_of(desk.current)):>21}")
        single = Desk(8, [1] * 8)
        for at in range(8):
            single[at] = 127
        self.assertEqual(single.current, ones(8))
        self.assertEqual(single.report()[8:], ["   7     1      8           127", "partitions                40320"])
        self.assertEqual(single.number(), 40320)

    def test_141_each_line_has_31_characters(self):
        for desk in some_desks():
            lines = desk.report()
            self.assertEqual([len(line) for line in lines], [31] * (len(desk) + 2))
            for at, (line, book) in enumerate(zip(lines[1:], desk)):
                self.assertEqual([int(part) for part in (line[:4], line[4:10], line[10:17], line[17:])],
                                 [at, book.size, len(book), book_number(book, 0)])
            self.assertEqual((lines[-1][:10], int(lines[-1][10:])), ("partitions", desk.number()))

    def test_137_numbers_of_partitions(self):
        self.assertEqual(square_desk().number(), 4)
        self.assertEqual(square_desk().current, squares())
        self.assertEqual(example().number(), 2)
