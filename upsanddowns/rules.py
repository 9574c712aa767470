"""Rules: matches of the walks up and down at a rank with the walks down and up and the colours."""

from math import factorial

from upsanddowns.amounts import is_int, product_of
from upsanddowns.checks import check_place_at, check_r_not_below, check_rank, check_seen
from upsanddowns.errors import BadRule, NotPositive
from upsanddowns.forms import is_count_row, is_order, is_row, is_row_of
from upsanddowns.tables import dot, entries_of


def check_pair(kept, rank, x, other):
    """Raises the error of the first fault in a rank below the top and two of its places."""
    check_place_at(kept.sizes, rank, x)
    check_place_at(kept.sizes, rank, other)
    check_seen(kept.sizes, rank + 1)


def two_steps(firsts, seconds):
    """The ways of two steps, each as (middle, first strand, second strand), ascending."""
    return [
        (middle, first, second)
        for middle, (many, others) in enumerate(zip(firsts, seconds))
        # Without a second strand the first ones alone may be long to go through.
        if others > 0
        for first in range(many)
        for second in range(others)
    ]


def peaks_between(kept, rank, x, other):
    """The peaks between two places of the rank, ascending."""
    return two_steps(kept.web.ups[rank][x], kept.web.downs[rank][other])


def peaks(kept, rank, x, other):
    """The walks up and down between two places of the rank, ascending."""
    check_pair(kept, rank, x, other)
    return tuple(peaks_between(kept, rank, x, other))


def tokens_between(kept, rank, x, other):
    """The tokens between two places of the rank, in their order."""
    q, r = kept.numbers[rank]
    dents = []
    if rank > 0:
        downs = [row[x] for row in kept.web.downs[rank - 1]]
        ups = [row[other] for row in kept.web.ups[rank - 1]]
        dents = two_steps(downs, ups)
    labels = q if len(dents) > 0 else 0
    colours = r if x == other else 0
    return [(label,) + dent for label in range(labels) for dent in dents] + [(colour,) for colour in range(colours)]


def tokens(kept, rank, x, other):
    """The tokens between two places of the rank, in their order."""
    check_pair(kept, rank, x, other)
    if kept.numbers[rank][1] < 0:
        raise NotPositive(rank)
    return tuple(tokens_between(kept, rank, x, other))


def peak_many(kept, rank, x, other):
    """The number of peaks between two places of the rank."""
    return dot(kept.web.ups[rank][x], kept.web.downs[rank][other])


class Rule:
    """The plain rule. A rule never changes."""

    WORD = "plain"

    def __init__(self, kept):
        check_r_not_below(kept.numbers, 0, kept.top)
        self.kept = kept

    def token_numbers(self, rank, x, other):
        """The numbers of the tokens of the peaks between two places of the rank."""
        check_pair(self.kept, rank, x, other)
        return tuple(range(peak_many(self.kept, rank, x, other)))

    def match(self, rank, x, other):
        """The peaks between two places of the rank, each with its token."""
        row = self.token_numbers(rank, x, other)
        told = tokens_between(self.kept, rank, x, other)
        return tuple([(peak, told[number]) for peak, number in zip(peaks_between(self.kept, rank, x, other), row)])

    def token_of(self, rank, x, other, peak):
        """The token of the peak."""
        wanted = tuple(peak) if is_row(peak) else ()
        for one, token in self.match(rank, x, other):
            if one == wanted:
                return token
        raise BadRule(rank)

    def peak_of(self, rank, x, other, token):
        """The peak of the token."""
        wanted = tuple(token) if is_row(token) else ()
        for peak, one in self.match(rank, x, other):
            if one == wanted:
                return peak
        raise BadRule(rank)


def told_shifts(kept, shifts):
    """The shifts as tuples, if there is a row of integers not below 0 for each rank below the top."""
    if not is_row(shifts):
        raise BadRule(-1)
    for rank in range(kept.top):
        if rank >= len(shifts) or not is_row(shifts[rank]) or not is_count_row(shifts[rank], len(shifts[rank])):
            raise BadRule(rank)
    if len(shifts) > kept.top:
        raise BadRule(kept.top)
    return tuple([tuple(row) for row in shifts])


class ShiftRule(Rule):
    """The rule by which the numbers of the tokens of each pair of places are shifted."""

    WORD = "shift"

    def __init__(self, kept, shifts):
        told = told_shifts(kept, shifts)
        super().__init__(kept)
        self.shifts = told

    def token_numbers(self, rank, x, other):
        """The numbers of the tokens of the peaks between two places of the rank."""
        check_pair(self.kept, rank, x, other)
        many = peak_many(self.kept, rank, x, other)
        row = self.shifts[rank]
        pair = x * self.kept.sizes[rank] + other
        shift = row[pair % len(row)] if len(row) > 0 else 0
        return tuple([(at + shift) % many for at in range(many)])


def is_place(sizes, rank, place):
    """True for the number of a place of the rank."""
    return is_int(place) and 0 <= place < sizes[rank]


def check_match(kept, entry, told):
    """Raises BadRule unless the entry tells the token numbers of a pair of places that is not told yet."""
    if not is_row_of(entry, 4) or not is_int(entry[0]) or not 0 <= entry[0] < kept.top:
        raise BadRule(-1)
    rank, x, other, row = entry
    if not is_place(kept.sizes, rank, x) or not is_place(kept.sizes, rank, other):
        raise BadRule(rank)
    if (rank, x, other) in told or not is_order(row, peak_many(kept, rank, x, other)):
        raise BadRule(rank)


def told_matches(kept, matches):
    """The token numbers by rank and pair of places, in the order told, if each entry is right."""
    if not is_row(matches):
        raise BadRule(-1)
    told = {}
    for entry in matches:
        check_match(kept, entry, told)
        told[(entry[0], entry[1], entry[2])] = tuple(entry[3])
    return told


class OwnRule(Rule):
    """The rule whose token numbers are told for some pairs of places, and plain at the others."""

    WORD = "own"

    def __init__(self, kept, matches):
        told = told_matches(kept, matches)
        super().__init__(kept)
        self.matches = tuple([key + (told[key],) for key in told])
        self.own_rows = told

    def token_numbers(self, rank, x, other):
        """The numbers of the tokens of the peaks between two places of the rank."""
        check_pair(self.kept, rank, x, other)
        key = (rank, x, other)
        if key in self.own_rows:
            return self.own_rows[key]
        return tuple(range(peak_many(self.kept, rank, x, other)))


def great_product(row):
    """The product of the integers of a row, neighbours first, so that factors of one size meet."""
    while len(row) > 1:
        row = [product_of(row[at:at + 2]) for at in range(0, len(row), 2)]
    return product_of(row)


def rule_count(kept, rank):
    """The number of ways to match the peaks of the rank with its tokens."""
    check_rank(kept.sizes, rank)
    check_seen(kept.sizes, rank + 1)
    if kept.numbers[rank][1] < 0:
        raise NotPositive(rank)
    return great_product([factorial(many) for many in entries_of(kept.above(rank))])
