"""Spreads: means and variances of readings along growth, and how unlike its steps are."""

from upsanddowns.amounts import check_number
from upsanddowns.checks import check_lively, check_place, check_rank, check_reading, check_seen, check_up_to
from upsanddowns.errors import BadPlace, BadRank, NotPositive
from upsanddowns.levels import parts
from upsanddowns.shares import Share, total_of
from upsanddowns.walks import moved


def check_spread(growth, rank, reading):
    """The reading as a tuple, if it is one of a rank not below the origin's."""
    check_grown_rank(growth, rank)
    return check_reading(growth.kept.sizes, rank, reading)


def check_grown_rank(growth, rank):
    """The rank itself, if it is one of the web and not below the origin's."""
    check_rank(growth.kept.sizes, rank)
    if rank < growth.origin_rank:
        raise BadRank(rank)
    return rank


def mean_of(shares, row):
    """The mean of the entries, weighed by the shares; entries with the share 0 may be None."""
    return total_of([share * entry for share, entry in zip(shares, row) if entry is not None])


def variance_of(shares, row):
    """The variance of the entries, weighed by the shares; entries with the share 0 may be None."""
    middle = mean_of(shares, row)
    return mean_of(shares, [entry if entry is None else entry * entry for entry in row]) - middle * middle


def mean(growth, rank, reading):
    """The mean of the reading, weighed by the shares of the rank."""
    row = check_spread(growth, rank, reading)
    return mean_of(growth.shares(rank), row)


def variance(growth, rank, reading):
    """The variance of the reading, weighed by the shares of the rank."""
    row = check_spread(growth, rank, reading)
    return variance_of(growth.shares(rank), row)


def ahead_times(growth, rank, row):
    """The reading ahead * row."""
    return tuple([growth.ahead((rank, at)) * entry for at, entry in enumerate(row)])


def check_spread_steps(growth, rank, reading, steps):
    """The reading as a tuple, if rank, reading and steps are right and the web is told so far."""
    row = check_spread(growth, rank, reading)
    check_number("steps", steps, 0)
    check_seen(growth.kept.sizes, rank + steps)
    return row


def means_behind(growth, rank, row, steps):
    """For each place so many steps above the mean of the entries given that growth comes there."""
    later = moved(growth.kept.web, ahead_times(growth, rank, row), "u" * steps, rank)
    return tuple([
        None if share.is_nought() else Share(entry, growth.ahead((rank + steps, at)))
        for at, (share, entry) in enumerate(zip(growth.shares(rank + steps), later))
    ])


def mean_back(growth, rank, reading, steps):
    """For each place so many steps above the mean of the reading given that growth comes there, or None."""
    row = check_spread_steps(growth, rank, reading, steps)
    return means_behind(growth, rank, row, steps)


def variance_back(growth, rank, reading, steps):
    """The variance of the means that mean_back tells."""
    row = check_spread_steps(growth, rank, reading, steps)
    return variance_of(growth.shares(rank + steps), means_behind(growth, rank, row, steps))


def ratio(growth, rank, steps, level):
    """The product of the gains from the level divided by those from rank 0, over so many steps."""
    check_grown_rank(growth, rank)
    check_number("steps", steps, 0)
    check_up_to("level", level, rank)
    numbers = growth.kept.numbers
    found = Share(1)
    for many in range(1, steps + 1):
        whole = numbers.gain(0, rank + many)
        if whole < 1:
            raise NotPositive(rank + many)
        found = found * Share(numbers.gain(level, rank - level + many), whole)
    return found


def slowest(kept, rank):
    """The least level from 1 to the rank with more places than the rank beneath it, or None."""
    check_rank(kept.sizes, rank)
    for level in range(1, rank + 1):
        if kept.sizes[level] > kept.sizes[level - 1]:
            return level
    return None


def two_levels(growth, rank, reading):
    """True if the reading ahead * reading has no parts but those of level 0 and of the slowest level."""
    row = check_spread(growth, rank, reading)
    check_lively(growth.kept.numbers, rank)
    found = parts(growth.kept, rank, ahead_times(growth, rank, row))
    allowed = (0, slowest(growth.kept, rank))
    return not any([any(part[0]) for level, part in enumerate(found) if level not in allowed])


def check_shared(growth, place):
    """The place as a tuple, if its share is not 0."""
    rank, number = check_place(growth.kept.sizes, place)
    if growth.share((rank, number)).is_nought():
        raise BadPlace(rank, number)
    return rank, number


def likeness_of(growth, one, other, steps):
    """How like the places are in where so many steps up lead from them."""
    firsts = growth.chances(one, "u" * steps)
    seconds = growth.chances(other, "u" * steps)
    return total_of([
        (first * second).over(share)
        for first, second, share in zip(firsts, seconds, growth.shares(one[0] + steps))
        if not share.is_nought()
    ])


def distance(growth, place, steps):
    """The likeness of the place with itself."""
    one = check_shared(growth, place)
    check_number("steps", steps, 0)
    check_seen(growth.kept.sizes, one[0] + steps)
    return likeness_of(growth, one, one, steps)


def likeness(growth, place, other, steps):
    """The sum of the products of both places' chances to come to a place, divided by its share."""
    one = check_shared(growth, place)
    two = check_shared(growth, other)
    if two[0] != one[0]:
        raise BadPlace(two[0], two[1])
    check_number("steps", steps, 0)
    check_seen(growth.kept.sizes, one[0] + steps)
    return likeness_of(growth, one, two, steps)
