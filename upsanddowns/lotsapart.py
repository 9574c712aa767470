"""Lots apart: places of any ranks of which no way up leads from one to another one."""

from upsanddowns.amounts import check_number
from upsanddowns.checks import check_lively, check_lot_of_pairs, check_place, check_rank, check_top
from upsanddowns.gates import reached_past
from upsanddowns.linking import EDGE, FREE, later_net, linked, pairing_net, searched, strands_of, way_from
from upsanddowns.matches import partners_in


def comes_before(web, place, other, *, side="ups"):
    """True if the other place lies higher and an up-way leads to it."""
    rank, number = check_place(web.sizes, place)
    last, end = check_place(web.sizes, other)
    if last <= rank:
        return False
    return end in reached_past(web, rank, [number], last - rank, side, {})


def most_on_a_way(web, lot, side):
    """The greatest number of places of the lot that lie on one up-way."""
    told = {place: 1 for place in lot}
    tables = strands_of(web, side)
    row = [told.get((0, number), 0) for number in range(web.sizes[0])]
    most = max(row, default=0)
    for rank in range(web.top):
        later = []
        for other in range(web.sizes[rank + 1]):
            behind = [many for number, many in enumerate(row) if tables[rank][number][other] > 0]
            later.append(max(behind, default=0) + told.get((rank + 1, other), 0))
        row = later
        most = max(most, max(row, default=0))
    return most


def is_layered(web, lot, many, *, side="ups"):
    """True if the lot is made of so many lots apart."""
    told = check_lot_of_pairs(web.sizes, lot)
    check_number("many", many, 0)
    return most_on_a_way(web, told, side) <= many


def is_apart(web, lot, *, side="ups"):
    """True if no place of the lot comes before another one."""
    return most_on_a_way(web, check_lot_of_pairs(web.sizes, lot), side) <= 1


def paired_places(web, top, side):
    """The net that pairs places of the ranks 0 to top with later ones, and its rows after and before."""
    net = pairing_net(later_net(web, top, side))
    after, before = linked(net, list(range(len(net.places) // 2)))
    return net, after, before


def parting_rows(web, *, top=None, side="ups"):
    """Fewest rows of places that hold each place once, each place ahead of the next one of its row."""
    net, after, before = paired_places(web, check_top(web.sizes, top), side)
    many = len(net.places) // 2
    later = [after[at] - many if after[at] > EDGE else EDGE for at in range(many)]
    starts = [at for at in range(many) if before[many + at] == FREE]
    return tuple([tuple([net.places[at] for at in way_from(later, start)]) for start in starts])


def greatest_apart(web, *, top=None, side="ups"):
    """A greatest lot apart, ascending."""
    net, after, before = paired_places(web, check_top(web.sizes, top), side)
    many = len(net.places) // 2
    states = searched(net, after, before, [at for at in range(many) if after[at] == FREE])[0]
    # Behind a place that is left as a first one all later places are come to as last ones, so no place
    # that is not come to so lies behind another one; of each parting row there is just one of these.
    return tuple([
        net.places[at] for at in range(many)
        if 2 * at + 1 in states and 2 * (many + at) not in states
    ])


def way_down(web, matches, top, number):
    """The places, the highest one last, that the matches tell from a place of the rank top downward."""
    way = [(top, number)]
    for rank in reversed(range(top)):
        if number not in matches[rank]:
            return tuple(way)
        number = matches[rank].index(number)
        way = [(rank, number)] + way
    return tuple(way)


def parting_ways(kept, *, top=None, side="ups"):
    """Ways that hold each place of the ranks 0 to top once and all end at rank top."""
    last = check_top(kept.sizes, top)
    check_lively(kept.numbers, last)
    # The numbers are lively, so each place below the top has a partner in the next rank.
    matches = [partners_in(kept.web, rank, side) for rank in range(last)]
    return tuple([way_down(kept.web, matches, last, number) for number in range(kept.sizes[last])])


def most_layered(kept, many, top):
    """The greatest number of places, up to the rank top, of a lot made of so many lots apart."""
    check_number("many", many, 0)
    check_rank(kept.sizes, top)
    check_lively(kept.numbers, top)
    return sum(kept.sizes[max(0, top - many + 1):top + 1])
