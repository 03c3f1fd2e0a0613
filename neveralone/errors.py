"""The errors of the program; each keeps what went wrong in its fields."""


class NeverAloneError(ValueError):
    """The base class of all errors of the program."""


class BadBook(NeverAloneError):
    """The arguments of a book have a fault."""

    def __init__(self, fault, at):
        self.fault = fault
        self.at = at


class BadChain(NeverAloneError):
    """The arguments of a chain have a fault."""

    def __init__(self, fault, at):
        self.fault = fault
        self.at = at


class Mismatch(NeverAloneError):
    """Arguments that do not fit together, or that something does not exist for."""

    def __init__(self, fault):
        self.fault = fault


class NotEven(NeverAloneError):
    """The book with an index has an odd face."""

    def __init__(self, at, face):
        self.at = at
        self.face = face


class NotTwoEach(NeverAloneError):
    """A face does not lie in exactly two rooms."""

    def __init__(self, face):
        self.face = face


class BadFamily(NeverAloneError):
    """The books do not make a family."""

    def __init__(self, fault, at):
        self.fault = fault
        self.at = at


class BadRule(NeverAloneError):
    """The arguments of a rule have a fault."""

    def __init__(self, fault, face):
        self.fault = fault
        self.face = face


class NotARoom(NeverAloneError):
    """A room is not among the rooms that are asked for."""

    def __init__(self, room):
        self.room = room


class NotAPartition(NeverAloneError):
    """A row is not a partition."""

    def __init__(self, fault):
        self.fault = fault


class NoSigns(NeverAloneError):
    """A book has no signs, as a ring shows."""

    def __init__(self, ring):
        self.ring = ring


class NotSigned(NeverAloneError):
    """The chain with an index is not a signed book."""

    def __init__(self, at):
        self.at = at


class TooMany(NeverAloneError):
    """There is more of something than a bound allows."""

    def __init__(self, what, bound):
        self.what = what
        self.bound = bound


class BadText(NeverAloneError):
    """A line of a text has a fault."""

    def __init__(self, line, fault):
        self.line = line
        self.fault = fault


class BadPaper(NeverAloneError):
    """A step of a certificate has a fault."""

    def __init__(self, step, fault):
        self.step = step
        self.fault = fault


class BadLabels(NeverAloneError):
    """Labels have a fault."""

    def __init__(self, fault, at):
        self.fault = fault
        self.at = at


class BadBounds(NeverAloneError):
    """The rows of bounds, or of a matrix, have a fault."""

    def __init__(self, fault, at):
        self.fault = fault
        self.at = at


class Unbounded(NeverAloneError):
    """No row of the bounds grows along a direction."""

    def __init__(self, direction):
        self.direction = direction


class Tied(NeverAloneError):
    """More rows than unknowns are tight at a corner."""

    def __init__(self, tight):
        self.tight = tight


class BadTable(NeverAloneError):
    """Two tables have a fault."""

    def __init__(self, fault, row, column):
        self.fault = fault
        self.row = row
        self.column = column


class BadOrders(NeverAloneError):
    """Orders have a fault."""

    def __init__(self, fault, at):
        self.fault = fault
        self.at = at


class BadParties(NeverAloneError):
    """Persons, parties and wishes have a fault."""

    def __init__(self, fault, at):
        self.fault = fault
        self.at = at


class BadWeb(NeverAloneError):
    """A book is not a web of the kind that is asked for."""

    def __init__(self, fault, at):
        self.fault = fault
        self.at = at


class BadDeed(NeverAloneError):
    """A deed cannot be done."""

    def __init__(self, fault):
        self.fault = fault
