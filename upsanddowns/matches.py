"""Matches between a rank and the next one: as many tied pairs of places as can be."""

from upsanddowns.checks import check_rank, check_seen
from upsanddowns.linking import EDGE, linked, net_of


def partners_in(web, rank, side):
    """For each place of the rank the number of its partner in a greatest match, or None."""
    net = net_of(web, rank, 1, side)
    size = web.sizes[rank]
    after = linked(net, list(range(size)))[0]
    return tuple([after[at] - size if after[at] > EDGE else None for at in range(size)])


def check_match(web, rank):
    """Raises the error of the first fault in a rank that has to be below the top."""
    check_rank(web.sizes, rank)
    check_seen(web.sizes, rank + 1)


def match_up(web, rank, *, side="ups"):
    """For each place of the rank the number of its partner in the next rank, or None."""
    check_match(web, rank)
    return partners_in(web, rank, side)


def match_down(web, rank, *, side="ups"):
    """For each place of the next rank the number of its partner in the rank, or None."""
    check_match(web, rank)
    found = [None] * web.sizes[rank + 1]
    for at, partner in enumerate(partners_in(web, rank, side)):
        if partner is not None:
            found[partner] = at
    return tuple(found)


def match_size(web, rank, *, side="ups"):
    """The number of pairs of a greatest match between the rank and the next one."""
    check_match(web, rank)
    return len([partner for partner in partners_in(web, rank, side) if partner is not None])
