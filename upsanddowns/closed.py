"""Closed walks told by sizes, and sizes told by one table or by totals."""

from upsanddowns.checks import check_any_rank, check_lively, check_q_positive, check_rank, check_sizes
from upsanddowns.errors import BadReading, BadTable, NoneSuch
from upsanddowns.forms import is_count_table, is_int_row, is_row
from upsanddowns.grids import rank_of, solution_of
from upsanddowns.sizes import roots_of, steps_of
from upsanddowns.tables import shifted
from upsanddowns.words import check_word, rise


def val_row(numbers, rank, word):
    """The vals of the word from the rank, at the levels 0 to rank."""
    return [numbers.val(level, rank, word) for level in range(rank + 1)]


def closed_total(numbers, sizes, rank, word):
    """The total of the word at the rank in a web with these sizes."""
    told = check_sizes(sizes)
    check_rank(told, rank)
    check_word(word)
    if rise(word) != 0:
        return 0
    return sum([step * val for step, val in zip(steps_of(told), val_row(numbers, rank, word))])


def sums_of(steps):
    """The sizes that have these steps."""
    row = []
    size = 0
    for step in steps:
        size = size + step
        row.append(size)
    return tuple(row)


def sizes_beneath(numbers, rank, above):
    """The sizes of the ranks up to this one, read off its table above."""
    check_any_rank(rank)
    if not is_row(above) or not is_count_table(above, len(above), len(above)):
        raise BadTable(rank, "ups")
    check_lively(numbers, rank)
    check_q_positive(numbers, 1, rank + 1)
    steps = [len(above) - rank_of(shifted(above, 1, -root)) for root in roots_of(numbers, rank)]
    if sum(steps) != len(above):
        raise NoneSuch(rank)
    return sums_of(steps)


def turning_word(steps, upward):
    """So many steps up and as many down, or first down and then up."""
    if upward:
        return "u" * steps + "d" * steps
    return "d" * steps + "u" * steps


def sizes_by_totals(numbers, rank, totals, *, upward=True):
    """The only sizes up to the rank that have these totals of the words that turn once."""
    check_any_rank(rank)
    if not is_int_row(totals, rank + 1):
        raise BadReading(rank)
    check_lively(numbers, rank)
    if upward:
        check_q_positive(numbers, 1, 2 * rank)
    vals = [val_row(numbers, rank, turning_word(steps, upward)) for steps in range(rank + 1)]
    steps, den = solution_of(vals, totals)
    if den != 1:
        raise NoneSuch(rank)
    return sums_of(steps)
