"""Strand numbers, and up-ways and down-ways told by them, all ends together."""

from upsanddowns.amounts import check_number
from upsanddowns.checks import check_any_rank, check_place, check_rank, check_seen
from upsanddowns.normal import normal_terms
from upsanddowns.tables import columns_of
from upsanddowns.walks import counts
from upsanddowns.words import check_word


def down_sums(web, rank):
    """The number of down strands of each place of the rank."""
    if rank == 0:
        return (0,) * web.sizes[0]
    return tuple([sum(column) for column in columns_of(web.downs[rank - 1], web.sizes[rank])])


def up_sums(web, rank):
    """The number of up strands of each place of a rank below the top."""
    return tuple([sum(row) for row in web.ups[rank]])


def sums_hold(ups, downs, g, f):
    """True if each number of up strands is g times the number of down strands and f more."""
    return all([up == g * down + f for up, down in zip(ups, downs)])


def unlike_at(row):
    """The first place whose entry is not the one of place 0, None if there is none."""
    for at, one in enumerate(row):
        if one != row[0]:
            return at
    return None


def pair_of_sums(ups, downs, at):
    """The only pair that may hold where place 0 and this one have unlike numbers of down strands."""
    more = downs[at] - downs[0]
    g = (ups[at] - ups[0]) // more
    return (g, ups[0] - g * downs[0])


def strand_numbers(web, rank):
    """A pair (g, f) that holds at the rank, or None."""
    check_rank(web.sizes, rank)
    check_seen(web.sizes, rank + 1)
    if web.sizes[rank] == 0:
        return (1, 0)
    ups = up_sums(web, rank)
    downs = down_sums(web, rank)
    at = unlike_at(downs)
    if at is None:
        return (1, ups[0] - downs[0]) if unlike_at(ups) is None else None
    g, f = pair_of_sums(ups, downs, at)
    return (g, f) if g >= 0 and sums_hold(ups, downs, g, f) else None


def has_strands(web, rank, g, f):
    """True if the pair (g, f) holds at the rank."""
    check_rank(web.sizes, rank)
    check_number("g", g, None)
    check_number("f", f, None)
    check_seen(web.sizes, rank + 1)
    return sums_hold(up_sums(web, rank), down_sums(web, rank), g, f)


def up_ways(web, place, steps):
    """The number of up-ways of so many steps from the place."""
    start = check_place(web.sizes, place)
    check_number("steps", steps, 0)
    check_seen(web.sizes, start[0] + steps)
    return sum(counts(web, start, "u" * steps))


def down_ways(web, place, steps):
    """The number of down-ways of so many steps from the place."""
    start = check_place(web.sizes, place)
    check_number("steps", steps, 0)
    if steps > start[0]:
        return 0
    return sum(counts(web, start, "d" * steps))


def next_spread(numbers, strands, rank, rows, beneath):
    """The row s(rank, k), where rows are s(rank, 0) to s(rank, k - 1) and beneath is s(rank - 1, k - 1)."""
    steps = len(rows)
    g, f = strands[rank + steps - 1]
    row = [f * entry for entry in rows[steps - 1]]
    if steps > 1:
        gain = numbers.gain(rank, steps - 1)
        row = [one + g * gain * two for one, two in zip(row, rows[steps - 2])]
    swaps = numbers.swaps(rank, steps - 1)
    return tuple([one + g * swaps * two for one, two in zip(row, [0] + list(beneath))])


def spread_rows(numbers, strands, rank, steps):
    """The rows s(rank, 0) to s(rank, steps)."""
    least = max(0, rank - steps)
    beneath = []
    for at in range(least, rank + 1):
        rows = [(1,) + (0,) * at]
        for many in range(1, steps - (rank - at) + 1):
            # Rank 0 has no rank beneath it, and no part that comes from there.
            under = beneath[many - 1] if at > 0 else ()
            rows.append(next_spread(numbers, strands, at, rows, under))
        beneath = rows
    return beneath


def spread_row(numbers, strands, rank, steps):
    """The row that tells the up-ways of so many steps from a place of the rank by its down-ways."""
    check_any_rank(rank)
    check_number("steps", steps, 0)
    return spread_rows(numbers, strands, rank, steps)[steps]


def single_ways(numbers, strands, start, steps):
    """The number of up-ways of so many steps from a fresh place of the rank start."""
    check_any_rank(start)
    check_number("steps", steps, 0)
    before = 0
    here = 1
    gain = 0
    for rank in range(start, start + steps):
        g, f = strands[rank]
        later = f * here + g * gain * before
        before = here
        here = later
        q, r = numbers[rank]
        gain = q * gain + r
    return here


def spread_word(numbers, strands, rank, word):
    """The row that tells the walks by the word from a place of the rank by its down-ways."""
    check_any_rank(rank)
    check_word(word)
    row = [0] * (rank + 1)
    for entry, downs, ups in normal_terms(numbers, word, rank):
        told = [0] * downs + list(spread_row(numbers, strands, rank - downs, ups))
        row = [one + entry * two for one, two in zip(row, told)]
    return tuple(row)
