"""The checks of arguments that many calls share. Each one raises the error of the first fault."""

from upsanddowns.amounts import is_int
from upsanddowns.errors import (
    BadLot, BadNumber, BadPlace, BadRank, BadReading, BadSize, NotBalanced, NotEven, NotLively, NotPositive, Unseen,
)
from upsanddowns.forms import is_count, is_int_row, is_row, is_row_of, is_whole_row


def check_rank(sizes, rank):
    """The rank itself, if a web with these sizes has it."""
    if not is_int(rank) or not 0 <= rank < len(sizes):
        raise BadRank(rank)
    return rank


def check_any_rank(rank):
    """The rank itself, if it is an integer not below 0."""
    return check_rank_from(rank, 0)


def check_rank_from(rank, least):
    """The rank itself, if it is an integer not below least."""
    if not is_int(rank) or rank < least:
        raise BadRank(rank)
    return rank


def check_place_at(sizes, rank, place):
    """The number of the place, where rank and number are told as two arguments."""
    check_rank(sizes, rank)
    if not is_int(place) or not 0 <= place < sizes[rank]:
        raise BadPlace(rank, place)
    return place


def check_place(sizes, place):
    """The place as a tuple, if a web with these sizes has it."""
    if not is_row_of(place, 2):
        raise BadPlace(-1, place)
    check_place_at(sizes, place[0], place[1])
    return (place[0], place[1])


def check_reading(sizes, rank, reading):
    """The reading as a tuple, if the rank has as many places as the reading has integers."""
    if not is_int_row(reading, sizes[rank]):
        raise BadReading(rank)
    return tuple(reading)


def check_lot(sizes, rank, lot):
    """The lot as an ascending tuple without repetitions, if its items are places of the rank."""
    if not is_row(lot):
        raise BadLot(-1)
    for at, one in enumerate(lot):
        if not is_int(one) or not 0 <= one < sizes[rank]:
            raise BadLot(at)
    return tuple(sorted(set(lot)))


def check_lot_of_pairs(sizes, lot):
    """The lot as an ascending tuple without repetitions, if its items are places (rank, number)."""
    if not is_row(lot):
        raise BadLot(-1)
    for at, one in enumerate(lot):
        if not is_int_row(one, 2) or not 0 <= one[0] < len(sizes) or not 0 <= one[1] < sizes[one[0]]:
            raise BadLot(at)
    return tuple(sorted(set([(one[0], one[1]) for one in lot])))


def check_top(sizes, top):
    """The rank to which ranks are looked at; None stands for the top of the web."""
    return len(sizes) - 1 if top is None else check_rank(sizes, top)


def check_weights(sizes, rows):
    """The rows, if they are one for each rank, each of as many integers above 0 as the rank has places."""
    if not is_row(rows):
        raise BadReading(-1)
    for rank, size in enumerate(sizes):
        if rank >= len(rows) or not is_whole_row(rows[rank], size):
            raise BadReading(rank)
    if len(rows) > len(sizes):
        raise BadReading(len(sizes))
    return rows


def check_seen(sizes, rank):
    """The rank itself, if it is not above the top."""
    if rank >= len(sizes):
        raise Unseen(rank)
    return rank


def check_up_to(name, one, most):
    """The integer itself, if it is one from 0 to most."""
    if not is_int(one) or not 0 <= one <= most:
        raise BadNumber(name)
    return one


def check_unlike(row, many):
    """A dict of the row's entries, if they are unlike integers from 0 to many - 1."""
    if not is_row(row):
        raise BadLot(-1)
    told = {}
    for at, one in enumerate(row):
        if not is_int(one) or not 0 <= one < many or one in told:
            raise BadLot(at)
        told[one] = True
    return told


def check_sizes(sizes):
    """The sizes as a tuple, if they are a row of at least one integer, none of them below 0."""
    if is_row(sizes) and len(sizes) == 0:
        raise BadSize(-1)
    return check_size_row(sizes)


def check_size_row(sizes):
    """The sizes as a tuple, if they are a row of integers, none of them below 0; there may be none."""
    if not is_row(sizes):
        raise BadSize(-1)
    for rank, size in enumerate(sizes):
        if not is_count(size):
            raise BadSize(rank)
    return tuple(sizes)


def check_even(web):
    """Raises NotEven for the first rank whose up strands and down strands above it differ."""
    for rank in range(web.top):
        if web.ups[rank] != web.downs[rank]:
            raise NotEven(rank)


def check_balance(web, rows):
    """Raises NotBalanced for the first rank between which and the next one these are no weights."""
    for rank in range(web.top):
        for weight, ups, downs in zip(rows[rank], web.ups[rank], web.downs[rank]):
            if [up * one for up, one in zip(ups, rows[rank + 1])] != [down * weight for down in downs]:
                raise NotBalanced(rank)


def check_lively(numbers, rank):
    """Raises NotLively unless the numbers are lively up to the rank."""
    dead = numbers.dead_pair(rank)
    if dead is not None:
        raise NotLively(dead[0], dead[1])


def end_that_tells(numbers, start, end):
    """A lesser end at which it is enough to stop, since all ranks behind the told pairs have one pair."""
    return min(end, max(start, len(numbers.pairs)) + 1)


def check_q_positive(numbers, start, end):
    """Raises NotPositive for the first rank from the start on, below the end, whose q is 0."""
    for rank in range(start, end_that_tells(numbers, start, end)):
        if numbers[rank][0] == 0:
            raise NotPositive(rank)


def check_r_not_below(numbers, start, end):
    """Raises NotPositive for the first rank from the start on, below the end, whose r is below 0."""
    for rank in range(start, end_that_tells(numbers, start, end)):
        if numbers[rank][1] < 0:
            raise NotPositive(rank)
