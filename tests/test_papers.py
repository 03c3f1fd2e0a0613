"""Points 48 (for these functions), 57 and 58."""

from neveralone.books import Book
from neveralone.errors import BadPaper, Mismatch, NotAPartition, TooMany
from neveralone.families import Family
from neveralone.makers import all_rooms
from neveralone.papers import PathPaper, paper_of, reversed_paper
from neveralone.paths import exchanges, mate, walk_path
from neveralone.rules import Rule
from tests.support import Case, Endless, all_families, ones, partitions_of, square_book, squares

START = ((0, 1), (2, 3))
STEPS = [(0, 0, 2), (1, 2, 0)]
ROW = ((0,), (1,), (2,), (3,))


def paper(steps, target=0, start=START, family=None):
    return PathPaper(family or squares(), target, start, steps)


def ones_paper(steps, target=0):
    return PathPaper(ones(4), target, ROW, steps)


class Papers(Case):
    def assertFaulty(self, step, fault, made):
        self.assertFails(BadPaper(step, fault), made.end)
        self.assertFails(BadPaper(step, fault), reversed_paper, made)
        self.assertIn(fault, PathPaper.FAULTS)

    def test_57_the_example(self):
        made = paper(STEPS)
        self.assertEqual(made.end(), ((1, 2), (0, 3)))
        self.assertEqual((made.family, made.target, made.start, made.steps), (squares(), 0, START, tuple(STEPS)))
        self.assertEqual((len(made), list(made)), (2, STEPS))
        self.assertEqual(PathPaper.FAULTS, ("start", "book", "leaving", "room", "early", "end"))

    def test_57_nothing_is_checked_when_a_paper_is_made(self):
        made = paper([(9, 9, 9)], target=99, start=[(7, 7)])
        self.assertEqual((made.target, made.start, made.steps, len(made)), (99, ((7, 7),), ((9, 9, 9),), 1))
        self.assertFaulty(0, "start", made)

    def test_57_equal_papers(self):
        made = paper(STEPS)
        self.assertEqual(made, PathPaper(squares(), 0, list(START), [list(step) for step in STEPS]))
        other = Family([square_book(), square_book() ^ Book(4, 2, [(0, 1), (0, 2), (1, 2)])])
        for unlike in (paper(STEPS, target=1), paper(STEPS[:1]), paper(STEPS, start=START[::-1]),
                       paper(STEPS, family=other), paper(STEPS[::-1]), STEPS):
            self.assertNotEqual(made, unlike)

    def test_57_start(self):
        for start in ((), ((0, 1),), ((0, 2), (1, 3)), ((1, 0), (2, 3)), ((0, 1), (0, 3)), START + ((),)):
            self.assertFaulty(0, "start", paper(STEPS, start=start))
            self.assertFaulty(0, "start", paper([], start=start))
            self.assertFaulty(0, "start", paper([(9, 9, 9)], start=list(start)))

    def test_57_book(self):
        for at in (2, -1, -2, 10 ** 30):
            self.assertFaulty(1, "book", paper([(at, 0, 2)]))
            self.assertFaulty(1, "book", paper([(at, 9, 9)] + STEPS))
            self.assertFaulty(2, "book", paper(STEPS[:1] + [(at, 2, 0)]))
            self.assertFaulty(2, "book", paper(STEPS[:1] + [(at, 7, 7), (9, 9, 9)]))

    def test_57_leaving_in_the_first_step(self):
        for step in ((0, 1, 2), (1, 0, 1), (1, 2, 0), (1, 3, 1), (0, 9, 2), (0, -1, 2), (0, 1, 99), (1, 0, 2)):
            self.assertFaulty(1, "leaving", paper([step] + STEPS[1:]))
        for target in (4, -1, 10 ** 30):
            self.assertFaulty(1, "leaving", paper(STEPS, target=target))
            self.assertFaulty(1, "leaving", paper([(0, target, 2)], target=target))
            self.assertFaulty(1, "book", paper([(2, target, 2)], target=target))
            self.assertFaulty(0, "end", paper([], target=target))

    def test_57_leaving_in_a_later_step(self):
        for step in ((0, 2, 0), (0, 2, 3), (0, 1, 0), (1, 3, 0), (1, 0, 1), (1, 9, 0), (0, 2, 99)):
            self.assertFaulty(2, "leaving", paper([STEPS[0], step]))
        # The target may not leave again, nor the room that has just been changed.
        self.assertFaulty(2, "leaving", ones_paper([(0, 0, 1), (0, 1, 2), (2, 2, 0)]))
        self.assertFaulty(3, "leaving", ones_paper([(0, 0, 1), (1, 1, 2), (1, 2, 0)]))
        self.assertEqual(ones_paper([(0, 0, 1), (1, 1, 2), (2, 2, 0)]).end(), ((1,), (2,), (0,), (3,)))

    def test_57_room(self):
        for entering in (0, 1, 3, 4, -1):
            self.assertFaulty(1, "room", paper([(0, 0, entering)] + STEPS[1:]))
        for entering in (2, 3, 1, 9):
            self.assertFaulty(2, "room", paper([STEPS[0], (1, 2, entering)]))
        self.assertFaulty(1, "room", paper([(0, 0, 0)]))
        self.assertFaulty(1, "room", paper([(0, 0, 3), (9, 9, 9)]))

    def test_57_early(self):
        self.assertFaulty(2, "early", paper(STEPS + [(0, 0, 2)]))
        self.assertFaulty(2, "early", paper(STEPS + [(9, 9, 9)]))
        self.assertFaulty(2, "early", ones_paper([(0, 0, 1), (1, 1, 0), (1, 0, 1)]))

    def test_57_the_start_again(self):
        faults = self.rings_back_to_the_start()
        self.assertGreater(len(faults), 0)
        for steps in faults:
            self.assertFaulty(len(steps), "end", ones_paper(steps))
            self.assertFaulty(len(steps), "early", ones_paper(list(steps) + [(0, 0, 1)]))

    def rings_back_to_the_start(self):
        """All rows of at most eight steps, right by themselves, from the partition back to itself."""
        found, open_ends = [], [((), ROW, None, 0)]
        while open_ends:
            steps, row, came, leaving = open_ends.pop()
            for at in [at for at in range(4) if row[at] == (leaving,) and at != came]:
                for entering in [place for place in range(4) if place != leaving]:
                    after = row[:at] + ((entering,),) + row[at + 1:]
                    grown = steps + ((at, leaving, entering),)
                    if after == ROW:
                        found.append(grown)
                    elif entering != 0 and len(grown) < 8:
                        open_ends.append((grown, after, at, entering))
        return found

    def test_57_end(self):
        self.assertFaulty(0, "end", paper([]))
        self.assertFaulty(1, "end", paper(STEPS[:1]))
        self.assertFaulty(2, "end", ones_paper([(0, 0, 1), (1, 1, 2)]))
        self.assertFaulty(1, "end", ones_paper([(0, 0, 1)]))

    def test_57_the_first_of_two_faults_in_one_step_and_in_two(self):
        self.assertFaulty(1, "book", paper([(2, 1, 1), STEPS[1]]))
        self.assertFaulty(1, "leaving", paper([(0, 1, 1), STEPS[1]]))
        self.assertFaulty(1, "room", paper([(0, 0, 3), (0, 0, 0)]))
        self.assertFaulty(2, "leaving", paper([STEPS[0], (0, 2, 0), (5, 5, 5)]))
        self.assertFaulty(1, "leaving", paper([(1, 0, 3), (9, 9, 9)]))

    def test_1_a_paper_copies_its_lists(self):
        steps, start = [list(step) for step in STEPS], list(START)
        made = PathPaper(squares(), 0, start, steps)
        steps[0][0] = 9
        steps.pop()
        start.clear()
        self.assertEqual(made, paper(STEPS))
        self.assertEqual(made.end(), ((1, 2), (0, 3)))


class MadePapers(Case):
    def test_58_papers_of_paths_and_their_reverses(self):
        for sizes in ((2, 2), (1, 1, 1, 1), (1, 2, 3), (2, 2, 2), (3, 3)):
            for family in all_families(sizes, range(2)):
                for row in partitions_of(family):
                    for target in range(family.places):
                        for order in Rule.ORDERS:
                            self.check_papers(family, row, target, [Rule(book, order) for book in family])
                        self.assertEqual(paper_of(family, row, target),
                                         paper_of(family, row, target, [Rule(book) for book in family]))

    def check_papers(self, family, row, target, rules):
        made = paper_of(family, list(row), target, rules)
        self.assertEqual(made, PathPaper(family, target, row, exchanges(family, row, target, rules)))
        self.assertEqual(made.end(), mate(family, row, target, rules))
        back = reversed_paper(made)
        self.assertEqual(back, paper_of(family, made.end(), target, rules))
        self.assertEqual((back.start, back.end()), (made.end(), row))
        self.assertEqual(reversed_paper(back), made)

    def test_58_a_reverse_of_a_paper_that_no_rule_makes(self):
        made = ones_paper([(0, 0, 1), (1, 1, 2), (2, 2, 1), (0, 1, 2), (2, 1, 0)])
        self.assertFails(BadPaper(5, "leaving"), reversed_paper, made)
        made = ones_paper([(0, 0, 1), (1, 1, 2), (2, 2, 1), (0, 1, 0)])
        self.assertEqual(made.end(), ((0,), (2,), (1,), (3,)))
        back = reversed_paper(made)
        self.assertEqual(back.steps, ((0, 0, 1), (2, 1, 2), (1, 2, 1), (0, 1, 0)))
        self.assertEqual((back.start, back.end(), back.target), (made.end(), ROW, 0))

    def test_58_the_example(self):
        self.assertEqual(reversed_paper(paper(STEPS)), paper([(1, 0, 2), (0, 2, 0)], start=((1, 2), (0, 3))))
        self.assertEqual(len(list(walk_path(squares(), START, 0))), len(paper_of(squares(), START, 0)) + 1)

    def test_48_the_first_of_two_errors(self):
        wrong = [Rule(all_rooms(4, 1))]
        for target in (-1, 4):
            self.assertFails(Mismatch("target"), paper_of, squares(), START, target, wrong)
        self.assertFails(Mismatch("rules"), paper_of, squares(), (), 0, wrong)
        self.assertFails(NotAPartition("count"), paper_of, squares(), (), 0)
        self.assertFails(NotAPartition("place"), paper_of, squares(), ((0, 1), (0, 1)), 0)
        self.assertFails(TooMany("exchanges", 20000), paper_of, ones(4), ROW, 0, [Endless(book) for book in ones(4)])
