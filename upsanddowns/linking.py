"""Nets of places, and ways in them that have no common place."""

from upsanddowns.tables import columns_of, dots, unit_table

# Ways without a common place are told by two rows: after[p] is the place behind p on its way, and
# before[p] the one ahead of it.
FREE = -2
EDGE = -1


class Net:
    """Places, numbered from 0, with the steps between them. It never changes.

    For each number, places has the place as (rank, number), nexts the numbers of the places to which
    a step leads, and ends whether a way may end there.
    """

    def __init__(self, places, nexts, ends):
        self.places = places
        self.nexts = nexts
        self.ends = ends


def strands_of(web, side):
    """The tables of the strands by which up-ways of this side go."""
    return web.ups if side == "ups" else web.downs


def ways_between(web, rank, steps, side):
    """The table of the numbers of up-ways of so many steps from the places of the rank."""
    tables = strands_of(web, side)
    found = unit_table(web.sizes[rank])
    for at in range(rank, rank + steps):
        found = dots(found, columns_of(tables[at], web.sizes[at + 1]))
    return found


def net_of(web, rank, steps, side):
    """The net of the places of the rank and of so many ranks above it, rank by rank.

    The places of the lowest rank have their own numbers, and ways end in the highest rank.
    """
    tables = strands_of(web, side)
    places = []
    nexts = []
    for at in range(rank, rank + steps + 1):
        behind = len(places) + web.sizes[at]
        for number in range(web.sizes[at]):
            row = tables[at][number] if at < rank + steps else ()
            places.append((at, number))
            nexts.append([behind + other for other, many in enumerate(row) if many > 0])
    return Net(places, nexts, [place[0] == rank + steps for place in places])


def later_net(web, top, side):
    """The net of the ranks 0 to top in which a step leads to each place that the first one comes before."""
    whole = net_of(web, 0, top, side)
    later = {}
    for at in reversed(range(len(whole.places))):
        found = {other: True for other in whole.nexts[at]}
        for other in whole.nexts[at]:
            for one in later[other]:
                found[one] = True
        later[at] = sorted(found)
    return Net(whole.places, [later[at] for at in range(len(whole.places))], whole.ends)


def pairing_net(net):
    """The net whose ways pair places, as first ones, with places to which a step leads, as last ones.

    The last ones stand behind the first ones.
    """
    many = len(net.places)
    nexts = [[many + other for other in row] for row in net.nexts]
    return Net(net.places + net.places, nexts + [[]] * many, [False] * many + [True] * many)


# What is searched are states. State 2p stands for having come to the place p, which is on a way: only
# the step that leads to p on its way can be taken back. State 2p + 1 stands for leaving p by a step.


def first_state(after, place):
    """The state of having come to the place."""
    return 2 * place + 1 if after[place] == FREE else 2 * place


def states_behind(net, after, before, state):
    """The states to which the state leads."""
    place = state // 2
    if state % 2 == 0:
        return [2 * before[place] + 1] if before[place] >= 0 else []
    found = [first_state(after, other) for other in net.nexts[place] if other != after[place]]
    if after[place] != FREE:
        found.append(2 * place)
    return found


def searched(net, after, before, starts):
    """The states reached from these places, each with the one ahead of it, and one at an end or None."""
    queue = [first_state(after, place) for place in starts]
    parents = {state: None for state in queue}
    at = 0
    while at < len(queue):
        state = queue[at]
        if state % 2 == 1 and net.ends[state // 2]:
            return parents, state
        for later in states_behind(net, after, before, state):
            if later not in parents:
                parents[later] = state
                queue.append(later)
        at += 1
    return parents, None


def trail_to(parents, state):
    """The states from the first one to this one."""
    trail = []
    one = state
    while one is not None:
        trail.append(one)
        one = parents[one]
    return trail[::-1]


def led_along(after, before, trail):
    """The rows after and before with one way more, and others led elsewhere, as the trail tells."""
    after = list(after)
    before = list(before)
    moves = [(one, one // 2, two // 2) for one, two in zip(trail, trail[1:])]
    for state, place, other in moves:
        if state % 2 == 0:
            after[other] = FREE
            before[place] = FREE
    for state, place, other in moves:
        if state % 2 == 1 and place != other:
            after[place] = other
            before[other] = place
    before[trail[0] // 2] = EDGE
    after[trail[-1] // 2] = EDGE
    return after, before


def one_way_more(net, after, before, start):
    """The rows after and before with a way from the start more; None if there is no such way."""
    parents, state = searched(net, after, before, [start])
    if state is None:
        return None
    return led_along(after, before, trail_to(parents, state))


def linked(net, starts):
    """The rows after and before of as many ways from the starts as there can be."""
    after = [FREE] * len(net.places)
    before = [FREE] * len(net.places)
    for start in starts:
        found = one_way_more(net, after, before, start)
        # A start from which no way is found now has none behind later ways either.
        if found is not None:
            after, before = found
    return after, before


def way_from(after, start):
    """The places of the way that begins with the start."""
    way = [start]
    while after[way[-1]] != EDGE:
        way.append(after[way[-1]])
    return tuple(way)
