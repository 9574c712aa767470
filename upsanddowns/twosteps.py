"""Tables of the walks up and down, and down and up, and the mirror between them."""

from upsanddowns.amounts import check_number, plain
from upsanddowns.checks import check_any_rank, check_rank
from upsanddowns.errors import BadNumber, BadTable, NotPositive
from upsanddowns.forms import is_int_table, is_square_table
from upsanddowns.normal import down_then_up
from upsanddowns.tables import shifted, table_product, unit_table, zero_table
from upsanddowns.walks import counts


def up_down_by(numbers, rank, table, steps):
    """The table of the walks by so many u and as many d, for a rank with this table below."""
    found = unit_table(len(table))
    for at in range(1, steps + 1):
        found = table_product(found, shifted(table, numbers.swaps(rank, at), numbers.gain(rank, at)))
    return found


def up_down(kept, rank, steps):
    """The table of the walks by so many u and as many d; they may climb above the top."""
    check_rank(kept.sizes, rank)
    check_number("steps", steps, 0)
    return up_down_by(kept.numbers, rank, kept.below(rank), steps)


def down_up(kept, rank, steps):
    """The table of the walks by so many d and as many u."""
    check_rank(kept.sizes, rank)
    check_number("steps", steps, 0)
    size = kept.sizes[rank]
    if steps > rank:
        return zero_table(size)
    word = down_then_up(steps, steps)
    return tuple([counts(kept.web, (rank, place), word) for place in range(size)])


def factor(table, scale, shift):
    """Scale times a square table, plus shift on the diagonal."""
    if not is_square_table(table):
        raise BadTable(0, "ups")
    check_number("scale", scale, None)
    check_number("shift", shift, None)
    return shifted(table, scale, shift)


def times(one, other):
    """The product of two tables."""
    if not is_int_table(one):
        raise BadTable(0, "ups")
    if not is_int_table(other) or (len(one) > 0 and len(one[0]) != len(other)):
        raise BadTable(1, "ups")
    return table_product(one, other)


def times_line(row, slope, shift):
    """The coefficients of a polynomial, least first, times slope * X + shift."""
    return [shift * one + slope * two for one, two in zip(row + [0], [0] + row)]


def fading_line(numbers, rank, steps):
    """The product of X - gain(rank - l, l) for l below steps, as coefficients."""
    row = [1]
    for at in range(steps):
        row = times_line(row, 1, -numbers.gain(rank - at, at))
    return row


def rising_lines(numbers, rank, steps):
    """The products of the first swaps * X + gain, none of them to steps of them, as coefficients."""
    rows = [[1]]
    for at in range(1, steps + 1):
        rows.append(times_line(rows[at - 1], numbers.swaps(rank, at), numbers.gain(rank, at)))
    return rows


def check_mirror(numbers, rank, steps):
    """Raises the error of the first fault in what mirror_row is passed."""
    check_any_rank(rank)
    if check_number("steps", steps, 0) > rank:
        raise BadNumber("steps")
    for at in range(rank - steps + 1, rank + steps):
        if numbers[at][0] == 0:
            raise NotPositive(at)


def mirror_row(numbers, rank, steps):
    """The row c of fractions by which walks down and up are told by walks up and down."""
    check_mirror(numbers, rank, steps)
    target = fading_line(numbers, rank, steps)
    den = 1
    for at in range(steps):
        den = den * numbers.swaps(rank - at, at)
    row = [0] * (steps + 1)
    # The product with most factors alone has the highest power of X, so it is taken away first.
    for at, line in reversed(list(enumerate(rising_lines(numbers, rank, steps)))):
        lead = line[at]
        part = target[at]
        row = [entry * lead for entry in row]
        row[at] = part
        target = [lead * one - part * two for one, two in zip(target, line)]
        den = den * lead
    return plain(row, den)


def fading(kept, rank):
    """The product of below - gain(rank - l, l) for l = 0 to rank, which is all 0."""
    table = kept.below(rank)
    found = unit_table(len(table))
    for at in range(rank + 1):
        found = table_product(found, shifted(table, 1, -kept.numbers.gain(rank - at, at)))
    return found
