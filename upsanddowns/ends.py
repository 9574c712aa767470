"""Where raising is one to one and where it reaches all, and how great lots apart may be."""

from upsanddowns.amounts import check_number
from upsanddowns.checks import check_balance, check_rank, check_seen, check_weights
from upsanddowns.grids import rank_of
from upsanddowns.levels import pures
from upsanddowns.linking import strands_of, ways_between
from upsanddowns.numbers import last_alive


def raising_rank(web, rank, side):
    """The number of independent raised readings of the rank."""
    return rank_of(strands_of(web, side)[rank])


def check_raising(web, rank):
    """Raises the error of the first fault in a rank that has to be below the top."""
    check_rank(web.sizes, rank)
    check_seen(web.sizes, rank + 1)


def is_one_to_one(web, rank, *, side="ups"):
    """True if unlike readings of the rank are raised to unlike ones."""
    check_raising(web, rank)
    return raising_rank(web, rank, side) == web.sizes[rank]


def reaches_all(web, rank, *, side="ups"):
    """True if each reading of the next rank is a raised one."""
    check_raising(web, rank)
    return raising_rank(web, rank, side) == web.sizes[rank + 1]


def is_ending(kept, level, rank):
    """True if the level is alive at the rank and has pure readings, but ends there."""
    if last_alive(kept.numbers, level, rank) < rank or kept.numbers.gain(level, rank + 1 - level) != 0:
        return False
    return pures(kept.web, level) > 0


def ends_at(kept, weights, rank):
    """The levels that end at the rank, ascending."""
    rows = check_weights(kept.sizes, weights)
    check_rank(kept.sizes, rank)
    check_balance(kept.web, rows)
    return tuple([level for level in range(rank + 1) if is_ending(kept, level, rank)])


def layer_bound(web, many, *, side="ups"):
    """What the places of a lot made of so many lots apart cannot exceed, told by the tables."""
    check_number("many", many, 0)
    ranks = [
        rank_of(ways_between(web, rank, many, side)) if rank + many <= web.top else 0
        for rank in range(web.top + 1)
    ]
    return sum(web.sizes) - sum(ranks)


def level_bound(kept, weights, many):
    """What the places of a lot made of so many lots apart cannot exceed, told by the levels."""
    rows = check_weights(kept.sizes, weights)
    check_number("many", many, 0)
    check_balance(kept.web, rows)
    return sum([
        pures(kept.web, level) * min(many, last_alive(kept.numbers, level, kept.top) - level + 1)
        for level in range(kept.top + 1)
    ])


def turning_rank(web, top):
    """The least rank below which raising is one to one and from which on it reaches all, or None."""
    check_rank(web.sizes, top)
    ranks = [raising_rank(web, rank, "ups") for rank in range(top)]
    for turn in range(top + 1):
        risen = all([ranks[rank] == web.sizes[rank] for rank in range(turn)])
        if risen and all([ranks[rank] == web.sizes[rank + 1] for rank in range(turn, top)]):
            return turn
    return None
