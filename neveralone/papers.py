"""Papers: certificates of paths that are checked without rules (points 57 and 58)."""

from neveralone.errors import BadPaper
from neveralone.partitions import partition_fault
from neveralone.paths import exchanges
from neveralone.points import double_place
from neveralone.rooms import exchanged


class PathPaper:
    """A family, a target, a start and steps (index, leaving place, entering place)."""

    FAULTS = ("start", "book", "leaving", "room", "early", "end")

    def __init__(self, family, target, start, steps):
        self.family = family
        self.target = target
        self.start = tuple(start)
        self.steps = tuple([tuple(step) for step in steps])

    def __eq__(self, other):
        return (isinstance(other, PathPaper) and self.family == other.family
                and self.target == other.target and self.start == other.start
                and self.steps == other.steps)

    def __len__(self):
        return len(self.steps)

    def __iter__(self):
        return iter(self.steps)

    def end(self):
        """Return the row after all steps, or raise BadPaper."""
        if partition_fault(self.family, self.start) != "":
            raise BadPaper(0, "start")
        row = self.start
        came = -1
        for number, step in enumerate(self.steps, start=1):
            leaving = self.target if number == 1 else double_place(row)
            fault = step_fault(self.family, row, step, came, leaving)
            if fault == "" and step[2] == self.target and number < len(self.steps):
                fault = "early"
            if fault != "":
                raise BadPaper(number, fault)
            came = step[0]
            row = stepped(row, step)
        if row == self.start or partition_fault(self.family, row) != "":
            raise BadPaper(len(self.steps), "end")
        return row


def stepped(row, step):
    """Return the row after a step."""
    at, leaving, entering = step
    return row[:at] + (exchanged(row[at], leaving, entering),) + row[at + 1:]


def step_fault(family, row, step, came, due):
    """Return the first fault of a step, or an empty string.

    The place `due` has to leave a room other than that with the index `came`.
    """
    at, leaving, entering = step
    if not 0 <= at < len(row):
        return "book"
    if leaving != due or at == came or leaving not in row[at]:
        return "leaving"
    if entering in row[at] or exchanged(row[at], leaving, entering) not in family[at]:
        return "room"
    return ""


def paper_of(family, row, target, rules=None):
    """Return the paper of the path from a partition to its mate."""
    return PathPaper(family, target, row, exchanges(family, row, target, rules))


def reversed_paper(paper):
    """Return the paper that leads from the end of a paper back to its start."""
    last = paper.end()
    steps = [(at, entering, leaving) for at, leaving, entering in paper.steps]
    return PathPaper(paper.family, paper.target, last, steps[::-1])
