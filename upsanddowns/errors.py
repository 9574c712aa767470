"""The errors of the package: what is wrong with an argument, and what a call needs in vain."""


class RanksError(Exception):
    """The base of all errors of the package."""


class BadForm(RanksError):
    """An argument is not of the form that is asked for."""


class UnmetNeed(RanksError):
    """The arguments are of the right form, but the call needs more of them."""


class BadNumber(BadForm):
    """The argument with this name is not a number of the kind that is asked for."""

    def __init__(self, name):
        self.name = name


class BadTable(BadForm):
    """A table of strands is not of the right form; rank -1 means the row of tables."""

    def __init__(self, rank, side):
        self.rank = rank
        self.side = side


class BadSize(BadForm):
    """The size of this rank is not told or not allowed; rank -1 means the row of sizes."""

    def __init__(self, rank):
        self.rank = rank


class BadRank(BadForm):
    """There is no such rank."""

    def __init__(self, rank):
        self.rank = rank


class BadPlace(BadForm):
    """There is no such place; rank -1 means that it is not told as a pair."""

    def __init__(self, rank, place):
        self.rank = rank
        self.place = place


class BadWord(BadForm):
    """The letter with this number is neither u nor d; -1 means that it is no string."""

    def __init__(self, at):
        self.at = at


class BadReading(BadForm):
    """A reading of this rank is not a row of as many integers as it has places."""

    def __init__(self, rank):
        self.rank = rank


class BadNumbers(BadForm):
    """The item with this number is not allowed; -1 means the whole row."""

    def __init__(self, at):
        self.at = at


class BadShare(BadForm):
    """The argument with this name does not make a share."""

    def __init__(self, name):
        self.name = name


class BadRule(BadForm):
    """A rule is not of the right form at this rank; -1 means the whole."""

    def __init__(self, rank):
        self.rank = rank


class BadFilling(BadForm):
    """The entry with this number does not fit a filling; -1 means the whole."""

    def __init__(self, at):
        self.at = at


class BadWalk(BadForm):
    """The step with this number does not fit the walk; -1 means the whole."""

    def __init__(self, at):
        self.at = at


class BadLot(BadForm):
    """The item with this number does not fit the lot; -1 means the whole."""

    def __init__(self, at):
        self.at = at


class BadParting(BadForm):
    """A parting is not of the right form at this rank; -1 means the whole."""

    def __init__(self, rank):
        self.rank = rank


class BadSymmetry(BadForm):
    """A symmetry is not of the right form at this rank; -1 means the whole."""

    def __init__(self, rank):
        self.rank = rank


class BadDeed(BadForm):
    """There is no such deed or question."""

    def __init__(self, word):
        self.word = word


class BadText(BadForm):
    """The line with this number, from 1, cannot be read; 0 means the whole text."""

    def __init__(self, line):
        self.line = line


class Unseen(UnmetNeed):
    """A rank above the top is needed."""

    def __init__(self, rank):
        self.rank = rank


class NotKept(UnmetNeed):
    """The rank does not keep its pair at these two places; -1 where none are told."""

    def __init__(self, rank, first, second):
        self.rank = rank
        self.first = first
        self.second = second


class NotEven(UnmetNeed):
    """The up strands and the down strands above this rank differ."""

    def __init__(self, rank):
        self.rank = rank


class NotBalanced(UnmetNeed):
    """The web is not balanced at this rank."""

    def __init__(self, rank):
        self.rank = rank


class NotLively(UnmetNeed):
    """The gain from this start by these steps is 0."""

    def __init__(self, start, steps):
        self.start = start
        self.steps = steps


class NotPositive(UnmetNeed):
    """What has to be positive is not so at this rank."""

    def __init__(self, rank):
        self.rank = rank


class NotFresh(UnmetNeed):
    """The place is not fresh."""

    def __init__(self, rank, place):
        self.rank = rank
        self.place = place


class NotFair(UnmetNeed):
    """The two places of one lot have unlike numbers of strands."""

    def __init__(self, rank, first, second):
        self.rank = rank
        self.first = first
        self.second = second


class NoneSuch(UnmetNeed):
    """There is no such thing; the rank tells where."""

    def __init__(self, rank):
        self.rank = rank


class TooMany(UnmetNeed):
    """There are more than this limit."""

    def __init__(self, limit):
        self.limit = limit
