"""Levels that are alive, and which sizes balanced webs may have."""

from upsanddowns.checks import check_any_rank, check_rank, check_reading, check_sizes
from upsanddowns.errors import NoneSuch
from upsanddowns.numbers import first_not_above, last_alive
from upsanddowns.webs import Web


def alive(numbers, start, rank):
    """True if the level start is alive at the rank."""
    check_any_rank(start)
    check_any_rank(rank)
    return rank >= start and last_alive(numbers, start, rank) == rank


def pures_of(numbers, sizes):
    """How many pure readings each rank has beside what the levels beneath bring up to it."""
    row = []
    for rank, size in enumerate(sizes):
        below = sum([many for level, many in enumerate(row) if last_alive(numbers, level, rank) == rank])
        row.append(size - below)
    return tuple(row)


def pures_by_sizes(numbers, sizes):
    """The numbers of pure readings that a balanced web with these sizes has."""
    return pures_of(numbers, check_sizes(sizes))


def is_excluded(numbers, level, many, top):
    """True if no balanced web told to the top has so many pure readings in the level."""
    if many <= 0:
        return many < 0
    steps = first_not_above(numbers, level, top)
    return steps is not None and numbers.gain(level, steps) < 0


def excluded_level(numbers, sizes):
    """The first level that no balanced web with these sizes can have, or None."""
    for level, many in enumerate(pures_of(numbers, sizes)):
        if is_excluded(numbers, level, many, len(sizes) - 1):
            return level
    return None


def forbidden(numbers, sizes):
    """None if a balanced web with these sizes keeps the numbers, else the first level that is excluded."""
    return excluded_level(numbers, check_sizes(sizes))


def chain_starts(numbers, sizes, rank):
    """The late chains that have a place at the rank, each as (rank of its start, its number there)."""
    return [
        (level, at)
        for level, many in enumerate(pures_of(numbers, sizes[:rank + 1]))
        if last_alive(numbers, level, rank) == rank
        for at in range(many)
    ]


def chain_table(lower, upper, strands):
    """The table between the places of chains at two ranks; the strands are told for each lower one."""
    return [
        [many if one == two else 0 for two in upper]
        for one, many in zip(lower, strands)
    ]


def chain_ups(lower, upper):
    """The up strands between the places that chains have at a rank and the next one."""
    return chain_table(lower, upper, [1] * len(lower))


def chain_downs(numbers, rank, lower, upper):
    """The down strands between the places that chains have at this rank and the next one."""
    return chain_table(lower, upper, [numbers.gain(start, rank + 1 - start) for start, _ in lower])


def late_sum(numbers, sizes):
    """The late chains, side by side, that make a balanced web with these sizes."""
    told = check_sizes(sizes)
    fault = excluded_level(numbers, told)
    if fault is not None:
        raise NoneSuch(fault)
    rows = [chain_starts(numbers, told, rank) for rank in range(len(told))]
    return Web(
        [chain_ups(rows[rank], rows[rank + 1]) for rank in range(len(told) - 1)],
        downs=[chain_downs(numbers, rank, rows[rank], rows[rank + 1]) for rank in range(len(told) - 1)],
        sizes=told,
    )


def norm(web, weights, rank, reading):
    """The sum of the squares of the reading's entries, each times the weight of its place."""
    check_rank(web.sizes, rank)
    row = check_reading(web.sizes, rank, reading)
    return sum([weight * entry * entry for weight, entry in zip(weights[rank], row)])
