"""Systems: ways from all places of a lot at once, no two of which have a common place."""

from upsanddowns.amounts import check_number, product_of
from upsanddowns.checks import check_even, check_lot, check_rank, check_seen
from upsanddowns.errors import TooMany
from upsanddowns.grids import determinant_of
from upsanddowns.linking import (
    EDGE, FREE, linked, net_of, one_way_more, strands_of, way_from, ways_between,
)
from upsanddowns.sizes import check_sizes_rise, size_steps
from upsanddowns.twosteps import up_down_by


def ways_table(web, rank, steps, *, side="ups"):
    """The numbers of up-ways of so many steps from the places of the rank."""
    check_rank(web.sizes, rank)
    check_number("steps", steps, 0)
    check_seen(web.sizes, rank + steps)
    return ways_between(web, rank, steps, side)


def rows_with(net, ways, at, step):
    """The rows after and before where only the later ways may be led elsewhere.

    The ways ahead of number at, and the first places of this one up to the step, stay: each of their
    places stands as a way of its own from which nothing can be taken back.
    """
    after = [FREE] * len(net.places)
    before = [FREE] * len(net.places)
    for way in ways[:at] + (ways[at][:step + 1],):
        for place in way:
            after[place] = EDGE
            before[place] = EDGE
    for way in ways[at + 1:]:
        for place, other in zip((EDGE,) + way, way + (EDGE,)):
            if place != EDGE:
                after[place] = other
            if other != EDGE:
                before[other] = place
    return after, before


def led_by(net, ways, at, step, other):
    """Ways whose told beginnings go on with a step to the other place; None if there are none."""
    if ways[at][step + 1] == other:
        return ways
    after, before = rows_with(net, ways, at, step)
    found = one_way_more(net, after, before, other)
    if found is None:
        return None
    behind = [way_from(found[0], way[0]) for way in ways[at + 1:]]
    return ways[:at] + (ways[at][:step + 1] + way_from(found[0], other),) + tuple(behind)


def choices_behind(net, ways, steps, told):
    """The choices of the next step where so many steps are told, way by way.

    A choice is (ways, told, other): one step more is told, and it leads to the other place. Whether
    some system goes on so is seen by led_by, when the choice is taken up.
    """
    place = ways[told // steps][told % steps]
    return [(ways, told + 1, other) for other in net.nexts[place]]


def strands_along(web, side, places):
    """The steps of a way through these places, each as (number of strands, number of the place)."""
    tables = strands_of(web, side)
    return [(tables[one[0]][one[1]][two[1]], two[1]) for one, two in zip(places, places[1:])]


def rows_of_strands(net, web, side, ways):
    """For each of the ways its steps, each as (number of strands, number of the place)."""
    return [strands_along(web, side, [net.places[at] for at in way]) for way in ways]


def first_ways(net, lot):
    """The ways of some system, None if there is no system."""
    after, before = linked(net, lot)
    if any([before[start] != EDGE for start in lot]):
        return None
    return tuple([way_from(after, start) for start in lot])


def strand_rows(web, rank, lot, steps, side, limit):
    """The systems told by places, with the numbers of their strands; TooMany(limit) if there are more."""
    net = net_of(web, rank, steps, side)
    found = []
    many = 0
    stack = [(first_ways(net, lot), 0, None)]
    while len(stack) > 0 and many <= limit:
        ways, told, other = stack.pop()
        if other is not None:
            ways = led_by(net, ways, (told - 1) // steps, (told - 1) % steps, other)
        if ways is not None and told < steps * len(lot):
            stack.extend(choices_behind(net, ways, steps, told))
        elif ways is not None:
            rows = rows_of_strands(net, web, side, ways)
            many = many + product_of([strands for row in rows for strands, _ in row])
            found.append(rows)
    if many > limit:
        raise TooMany(limit)
    return found


def ways_by(row):
    """All ways with these places and numbers of strands."""
    ways = [()]
    for many, place in row:
        ways = [way + ((strand, place),) for way in ways for strand in range(many)]
    return ways


def systems_by(rows):
    """All systems with these places and numbers of strands."""
    systems = [()]
    for row in rows:
        systems = [system + (way,) for system in systems for way in ways_by(row)]
    return systems


def systems_of(web, rank, lot, steps, *, side="ups", limit=500):
    """All systems from the lot to the rank so many steps above, ascending."""
    check_rank(web.sizes, rank)
    told = check_lot(web.sizes, rank, lot)
    check_number("steps", steps, 0)
    check_number("limit", limit, 0)
    check_seen(web.sizes, rank + steps)
    found = strand_rows(web, rank, told, steps, side, limit)
    for system in sorted([system for rows in found for system in systems_by(rows)]):
        yield system


def sign_of(system):
    """1 if an even number of pairs of ways have their ends in descending order, else -1."""
    ends = [way[-1][1] for way in system if len(way) > 0]
    falls = [1 for at, end in enumerate(ends) for later in ends[at + 1:] if later < end]
    return 1 if len(falls) % 2 == 0 else -1


def part_of(table, rows, columns):
    """The part of the table with these rows and columns."""
    return [[table[row][column] for column in columns] for row in rows]


def signed_sum(web, rank, lot, steps, ends, *, side="ups"):
    """The sum of the signs of the systems from the lot to the lot of ends."""
    check_rank(web.sizes, rank)
    told = check_lot(web.sizes, rank, lot)
    check_number("steps", steps, 0)
    check_seen(web.sizes, rank + steps)
    last = check_lot(web.sizes, rank + steps, ends)
    if len(told) != len(last):
        return 0
    return determinant_of(part_of(ways_between(web, rank, steps, side), told, last))


def square_sum(kept, rank, lot, steps):
    """The sum, over all lots of ends, of the signed sum by ups times the one by downs."""
    check_rank(kept.sizes, rank)
    told = check_lot(kept.sizes, rank, lot)
    check_number("steps", steps, 0)
    return determinant_of(part_of(up_down_by(kept.numbers, rank, kept.below(rank), steps), told, told))


def odd_systems(kept, rank, steps):
    """True if the number of systems from all of the rank is odd, told by sizes and numbers."""
    check_rank(kept.sizes, rank)
    check_number("steps", steps, 0)
    check_even(kept.web)
    check_sizes_rise(kept, rank)
    rising = [level for level, step in enumerate(size_steps(kept.web)[:rank + 1]) if step > 0]
    gains = [kept.numbers.gain(level, rank - level + many) for level in rising for many in range(1, steps + 1)]
    return all([gain % 2 == 1 for gain in gains])
