"""Two-step tables of a web, and what its ranks keep."""

from upsanddowns.amounts import check_number
from upsanddowns.checks import check_rank, check_seen
from upsanddowns.errors import NotKept
from upsanddowns.numbers import Numbers
from upsanddowns.tables import columns_of, dots, shifted, zero_table


def below(web, rank):
    """The walks down and up between the places of the rank."""
    check_rank(web.sizes, rank)
    size = web.sizes[rank]
    if rank == 0:
        return zero_table(size)
    return dots(columns_of(web.downs[rank - 1], size), columns_of(web.ups[rank - 1], size))


def above(web, rank):
    """The walks up and down between the places of the rank."""
    check_rank(web.sizes, rank)
    check_seen(web.sizes, rank + 1)
    return dots(web.ups[rank], web.downs[rank])


def first_difference(table, other):
    """The first pair of places at which two tables differ, or None."""
    for first, (row, line) in enumerate(zip(table, other)):
        for second, (one, two) in enumerate(zip(row, line)):
            if one != two:
                return (first, second)
    return None


def breach(web, rank, q, r):
    """The first pair of places at which the rank does not keep (q, r), or None."""
    check_rank(web.sizes, rank)
    check_number("q", q, 0)
    check_number("r", r, None)
    return first_difference(above(web, rank), shifted(below(web, rank), q, r))


def keeps(web, rank, q, r):
    """True if the rank keeps (q, r)."""
    return breach(web, rank, q, r) is None


class Judged:
    """What a rank keeps. Only judge makes these."""

    ANY = "any"
    ONE = "one"
    LINE = "line"
    NONE = "none"

    def __init__(self, rank, word, pair, places, line):
        self.rank = rank
        self.word = word
        self.pair = pair
        self.places = places
        self.line = line

    def allows(self, q, r):
        """True if the rank keeps (q, r)."""
        check_number("q", q, 0)
        check_number("r", r, None)
        if self.word == Judged.ANY:
            return True
        if self.word == Judged.LINE:
            return r == self.line[1] - q * self.line[0]
        return self.word == Judged.ONE and self.pair == (q, r)


def telling_pairs(table):
    """The pairs of places of a table below that tell q alone, () if no pairs do."""
    for first, row in enumerate(table):
        for second, entry in enumerate(row):
            if first != second and entry > 0:
                return ((first, second),)
    for at in range(len(table)):
        if table[at][at] != table[0][0]:
            return ((0, 0), (at, at))
    return ()


def told_q(low, high, pairs):
    """The q that these pairs tell, None if it is no integer or below 0."""
    first, second = pairs[0]
    under = low[first][second]
    over = high[first][second]
    if len(pairs) == 2:
        last = pairs[1][0]
        under = low[last][last] - under
        over = high[last][last] - over
    if over % under != 0 or over // under < 0:
        return None
    return over // under


def judged_none(rank, pairs):
    """What a rank keeps where these pairs of places allow no (q, r)."""
    return Judged(rank, Judged.NONE, None, pairs, None)


def judge_line(rank, low, high):
    """What a rank keeps whose table below is one integer on the diagonal and 0 off it."""
    under = low[0][0]
    over = high[0][0]
    fault = first_difference(high, shifted(low, 1, over - under))
    if fault is not None:
        return judged_none(rank, ((0, 0), fault))
    return Judged(rank, Judged.LINE, (1, over - under), (), (under, over))


def judge(web, rank):
    """What the rank keeps."""
    high = above(web, rank)
    low = below(web, rank)
    if len(low) == 0:
        return Judged(rank, Judged.ANY, (1, 0), (), None)
    pairs = telling_pairs(low)
    if len(pairs) == 0:
        return judge_line(rank, low, high)
    q = told_q(low, high, pairs)
    if q is None:
        return judged_none(rank, pairs)
    r = high[0][0] - q * low[0][0]
    fault = first_difference(high, shifted(low, q, r))
    if fault is None:
        return Judged(rank, Judged.ONE, (q, r), (), None)
    # The telling pairs leave one q, the first place leaves one r, and the fault excludes both.
    return judged_none(rank, tuple([pair for pair in pairs if pair != (0, 0)]) + ((0, 0), fault))


def read_numbers(web):
    """Numbers that the web keeps, with the pair of judge at each rank below the top."""
    pairs = []
    for rank in range(web.top):
        judged = judge(web, rank)
        if judged.pair is None:
            raise NotKept(rank, -1, -1)
        pairs.append(judged.pair)
    return Numbers(pairs)
