"""Ways apart from a lot to a higher rank, and the gates that meet all ways there."""

from upsanddowns.amounts import check_number
from upsanddowns.checks import check_lot, check_lot_of_pairs, check_rank, check_seen
from upsanddowns.linking import FREE, linked, net_of, searched, strands_of, way_from


def check_way_lot(web, rank, lot, steps):
    """The lot as an ascending tuple, if rank, lot and steps are right."""
    check_rank(web.sizes, rank)
    told = check_lot(web.sizes, rank, lot)
    check_number("steps", steps, 0)
    return told


def check_seen_lot(web, rank, lot, steps):
    """The lot as an ascending tuple, if rank, lot and steps are right and the web is told so far."""
    told = check_way_lot(web, rank, lot, steps)
    check_seen(web.sizes, rank + steps)
    return told


def steps_along(places):
    """The steps of a way through these places, along the strand of the number 0 each time."""
    return tuple([(0, place[1]) for place in places[1:]])


def ways_apart(web, rank, lot, steps, *, side="ups"):
    """As many ways apart from the lot as can be, each as (number of its first place, way)."""
    told = check_seen_lot(web, rank, lot, steps)
    net = net_of(web, rank, steps, side)
    after = linked(net, told)[0]
    # All places of the lot have numbers of their own in the net, and no step leads to them.
    return tuple([
        (start, steps_along([net.places[at] for at in way_from(after, start)]))
        for start in told
        if after[start] != FREE
    ])


def gate_in(net, starts):
    """The numbers of the places of a least gate between the starts and the ends of the net."""
    after, before = linked(net, starts)
    reached_states = searched(net, after, before, starts)[0]
    # There is no way more, so a way can be come to but not left at just one of its places.
    return [
        at for at in range(len(net.places))
        if 2 * at in reached_states and 2 * at + 1 not in reached_states
    ]


def gate(web, rank, lot, steps, *, side="ups"):
    """A least set of places that meets each way from the lot, ascending."""
    told = check_seen_lot(web, rank, lot, steps)
    net = net_of(web, rank, steps, side)
    return tuple([net.places[at] for at in gate_in(net, told)])


def reached_past(web, rank, lot, steps, side, closed):
    """The places reached from the lot by so many steps that lead through none of the closed places."""
    tables = strands_of(web, side)
    found = [place for place in lot if (rank, place) not in closed]
    for at in range(rank, rank + steps):
        found = [
            other for other in range(web.sizes[at + 1])
            if (at + 1, other) not in closed and any([tables[at][place][other] for place in found])
        ]
    return tuple(found)


def reached(web, rank, lot, steps, *, side="ups"):
    """The places so many steps above the rank to which a way leads from the lot."""
    told = check_seen_lot(web, rank, lot, steps)
    return reached_past(web, rank, told, steps, side, {})


def is_gate(web, rank, lot, steps, places, *, side="ups"):
    """True if these places meet each way from the lot."""
    told = check_way_lot(web, rank, lot, steps)
    closed = {place: True for place in check_lot_of_pairs(web.sizes, places)}
    check_seen(web.sizes, rank + steps)
    return len(reached_past(web, rank, told, steps, side, closed)) == 0
