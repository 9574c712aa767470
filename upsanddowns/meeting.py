"""Meeting: the places that growth meets, and what lies above or beneath a lot."""

from upsanddowns.amounts import check_number
from upsanddowns.checks import check_lot, check_lot_of_pairs, check_rank, check_seen
from upsanddowns.errors import BadRank
from upsanddowns.shares import Share, total_of
from upsanddowns.tables import columns_of


def mass(growth, places):
    """The sum of the shares of the places."""
    return total_of([growth.share(place) for place in check_lot_of_pairs(growth.kept.sizes, places)])


def met_behind(row, ways):
    """For each number of places met the sum of the ways, where each row of ways leads on so many times."""
    return [sum([many * one[met] for many, one in zip(row, ways)]) for met in range(len(ways[0]))]


def one_more_met(row):
    """The numbers of ways where each way has met one place more."""
    return [0] + row[:-1]


def ways_by_meetings(growth, lot):
    """For each place of the top rank how many up-ways from the origin meet 0, 1, 2, .. places of the lot."""
    web = growth.kept.web
    start, origin = growth.place
    told = {place: True for place in lot}
    none = [0] * (web.top - start + 2)
    ways = [[1] + none[1:] if at == origin else none for at in range(web.sizes[start])]
    for rank in range(start, web.top + 1):
        if rank > start:
            ways = [met_behind(column, ways) for column in columns_of(web.ups[rank - 1], web.sizes[rank])]
        ways = [one_more_met(row) if (rank, at) in told else row for at, row in enumerate(ways)]
    return ways


def meets(growth, places, *, times=1):
    """The chance that growth meets at least so many of the places."""
    lot = check_lot_of_pairs(growth.kept.sizes, places)
    check_number("times", times, 0)
    top = growth.kept.top
    many = [
        sum(row[times:]) * growth.back((top, at))
        for at, row in enumerate(ways_by_meetings(growth, lot))
    ]
    return Share(sum(many), growth.gains_to(top))


def parents_past(growth, lot):
    """For each rank from the origin's on the places that growth reaches past the lot, each with the one ahead."""
    web = growth.kept.web
    start, origin = growth.place
    told = {place: True for place in lot}
    rows = [{} if growth.place in told else {origin: None}]
    for rank in range(start, web.top):
        row = {}
        for place in rows[rank - start]:
            for other, many in enumerate(web.ups[rank][place]):
                if many > 0 and (rank + 1, other) not in told and growth.back((rank + 1, other)) > 0:
                    row[other] = place
        rows.append(row)
    return rows


def missing_way(growth, places):
    """The places of a way of growth that meets none of the places, None if there is none."""
    lot = check_lot_of_pairs(growth.kept.sizes, places)
    rows = parents_past(growth, lot)
    last = list(rows[-1])
    if len(last) == 0:
        return None
    place = last[0]
    way = []
    for at in reversed(range(len(rows))):
        way.append((growth.place[0] + at, place))
        place = rows[at][place]
    return tuple(way[::-1])


def met_always(growth, places):
    """True if each way of growth meets one of the places."""
    return missing_way(growth, places) is None


def above_of(growth, rank, lot):
    """The places of the next rank with a share to which an up strand leads from the lot."""
    web = growth.kept.web
    check_rank(web.sizes, rank)
    if rank < growth.origin_rank:
        raise BadRank(rank)
    told = check_lot(web.sizes, rank, lot)
    check_seen(web.sizes, rank + 1)
    return tuple([
        other for other, share in enumerate(growth.shares(rank + 1))
        if not share.is_nought() and any([web.ups[rank][place][other] for place in told])
    ])


def beneath_of(growth, rank, lot):
    """The places of the rank beneath with a share to which a down strand leads from the lot."""
    web = growth.kept.web
    check_rank(web.sizes, rank)
    if rank <= growth.origin_rank:
        raise BadRank(rank)
    told = check_lot(web.sizes, rank, lot)
    return tuple([
        other for other, share in enumerate(growth.shares(rank - 1))
        if not share.is_nought() and any([web.downs[rank - 1][other][place] for place in told])
    ])
