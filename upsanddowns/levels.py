"""Levels: pure readings, and the parts of which each reading is the sum."""

from upsanddowns.amounts import plain_by
from upsanddowns.checks import check_any_rank, check_lively, check_rank, check_reading, check_up_to
from upsanddowns.grids import nulls, rank_of
from upsanddowns.tables import unit_table
from upsanddowns.walks import moved


def pures(web, rank):
    """The number of independent pure readings of the rank."""
    check_rank(web.sizes, rank)
    if rank == 0:
        return web.sizes[0]
    return web.sizes[rank] - rank_of(web.downs[rank - 1])


def pure_basis(web, rank):
    """Independent pure readings of the rank, of which all others are sums."""
    check_rank(web.sizes, rank)
    if rank == 0 or web.sizes[rank - 1] == 0:
        return unit_table(web.sizes[rank])
    return nulls(web.downs[rank - 1])


def pure_line(numbers, rank):
    """The row of the formula for pure parts, as a scaled reading; the numbers must be lively."""
    row = [1]
    den = 1
    for at in range(rank):
        gain = numbers.gain(rank - at - 1, at + 1)
        swaps = numbers.swaps(rank - at, at)
        row = [entry * gain for entry in row] + [-row[at] * swaps]
        den = den * gain
    return plain_by(row, den)


def pure_row(numbers, rank):
    """The row of the formula for pure parts at the rank, a scaled reading."""
    check_any_rank(rank)
    check_lively(numbers, rank)
    return pure_line(numbers, rank)


def down_and_up(web, rank, row, steps):
    """The row lowered so many times and then raised as often."""
    return moved(web, row, "d" * steps + "u" * steps, rank)


def mixed(web, rank, line, row):
    """The sum over j of entry j of the line times the row lowered j times and then raised j times."""
    found = [0] * len(row)
    for steps, entry in enumerate(line):
        moves = down_and_up(web, rank, row, steps)
        found = [one + entry * two for one, two in zip(found, moves)]
    return tuple(found)


def check_lively_reading(kept, rank, reading):
    """The reading as a tuple, if it is one of a rank up to which the numbers are lively."""
    check_rank(kept.sizes, rank)
    row = check_reading(kept.sizes, rank, reading)
    check_lively(kept.numbers, rank)
    return row


def pure_of(kept, rank, row):
    """The pure part of a row of integers, as a pair (row, den) that may not be in lowest terms."""
    line, den = pure_line(kept.numbers, rank)
    return mixed(kept.web, rank, line, row), den


def pure_part(kept, rank, reading):
    """The part of the reading that lies in the level of its own rank, a scaled reading."""
    row = check_lively_reading(kept, rank, reading)
    found, den = pure_of(kept, rank, row)
    return plain_by(found, den)


def core_of(kept, rank, row, level):
    """The core of the level, as a pair (row, den) that may not be in lowest terms."""
    # Lowered to the rank of the level, the part of this level is its core times these gains, the
    # parts of higher levels are gone, and the pure part leaves out those of lower levels.
    low = moved(kept.web, row, "d" * (rank - level), rank)
    found, den = pure_of(kept, level, low)
    return found, den * kept.numbers.gains(level, rank - level)


def part_of(kept, rank, row, level):
    """The part of a row of integers that lies in the level, a scaled reading."""
    found, den = core_of(kept, rank, row, level)
    return plain_by(moved(kept.web, found, "u" * (rank - level), level), den)


def parts(kept, rank, reading):
    """The parts of the reading, one for each level up to its rank, each a scaled reading."""
    row = check_lively_reading(kept, rank, reading)
    return tuple([part_of(kept, rank, row, level) for level in range(rank + 1)])


def core(kept, rank, reading, level):
    """The pure reading of the rank level that, raised to the rank, is the part of this level."""
    check_rank(kept.sizes, rank)
    row = check_reading(kept.sizes, rank, reading)
    check_up_to("level", level, rank)
    check_lively(kept.numbers, rank)
    found, den = core_of(kept, rank, row, level)
    return plain_by(found, den)


def level_of(kept, rank, reading):
    """The only level in which the reading has a part that is not all 0, None if there is no such one."""
    found = [level for level, part in enumerate(parts(kept, rank, reading)) if any(part[0])]
    return found[0] if len(found) == 1 else None
