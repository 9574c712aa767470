"""Readings told back from what they were raised to."""

from upsanddowns.amounts import check_number, plain_by
from upsanddowns.checks import check_any_rank, check_lively, check_rank, check_reading, check_seen
from upsanddowns.grids import solution_of
from upsanddowns.levels import mixed
from upsanddowns.tables import columns_of
from upsanddowns.walks import moved, unit_row


def products_down(numbers, level, rank):
    """The products of the gains from the level, from the one that reaches the rank downward."""
    row = [1]
    for at in range(rank - level):
        row.append(row[at] * numbers.gain(level, rank - level - at))
    return row


def back_line(numbers, rank, steps):
    """The row of the formula for reading back, a scaled reading; the numbers must be lively."""
    row = []
    den = 1
    for level in range(rank, -1, -1):
        told = products_down(numbers, level, rank)
        ahead = 1
        for many in range(1, steps + 1):
            ahead = ahead * numbers.gain(level, rank - level + many)
        # The entry wanted is (1 / ahead - sum) / last, where the sum, over den, is that of the
        # entries told so far, each times its product, and last is the product of the entry itself.
        rest = den - ahead * sum([one * two for one, two in zip(row, told)])
        last = ahead * told[rank - level]
        row = [entry * last for entry in row] + [rest]
        den = den * last
    return plain_by(row, den)


def back_row(numbers, rank, steps):
    """The row by which a reading is told by what it is, raised and then lowered so many times."""
    check_any_rank(rank)
    check_number("steps", steps, 0)
    check_lively(numbers, rank + steps)
    return back_line(numbers, rank, steps)


def check_raised(kept, rank, steps, reading):
    """The reading as a tuple, if it is one of the rank so many steps above the rank."""
    check_rank(kept.sizes, rank)
    check_number("steps", steps, 0)
    check_seen(kept.sizes, rank + steps)
    return check_reading(kept.sizes, rank + steps, reading)


def read_back(kept, rank, steps, reading):
    """The scaled reading that, raised so many times, is the reading, None if there is none."""
    row = check_raised(kept, rank, steps, reading)
    check_lively(kept.numbers, rank + steps)
    line, den = back_line(kept.numbers, rank, steps)
    found = mixed(kept.web, rank, line, moved(kept.web, row, "d" * steps, rank + steps))
    # Each raised reading is told back so; another one is not what is found here, raised.
    if moved(kept.web, found, "u" * steps, rank) != tuple([den * entry for entry in row]):
        return None
    return plain_by(found, den)


def raising_table(web, rank, steps):
    """The table by which readings of the rank are raised so many times."""
    rows = [moved(web, unit_row(web.sizes[rank], at), "u" * steps, rank) for at in range(web.sizes[rank])]
    return columns_of(rows, web.sizes[rank + steps])


def is_image(kept, rank, steps, reading):
    """True if some reading of the rank, raised so many times, is the reading."""
    row = check_raised(kept, rank, steps, reading)
    return solution_of(raising_table(kept.web, rank, steps), row) is not None


def is_blind(kept, rank, steps, reading):
    """True if the reading, lowered so many times, is 0 everywhere."""
    row = check_raised(kept, rank, steps, reading)
    return not any(moved(kept.web, row, "d" * steps, rank + steps))


def seen_from(kept, rank, steps, reading):
    """The reading raised so many times."""
    check_rank(kept.sizes, rank)
    check_number("steps", steps, 0)
    row = check_reading(kept.sizes, rank, reading)
    check_seen(kept.sizes, rank + steps)
    return moved(kept.web, row, "u" * steps, rank)
