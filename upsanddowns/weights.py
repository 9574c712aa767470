"""Weights of balanced webs, and the ring that tells why a web has none."""

from math import gcd, lcm


def ties_beneath(web, rank, number):
    """The ties of a place with the rank beneath, each as (place, strands to it, strands from it)."""
    if rank == 0:
        return []
    outs = web.down_row(rank, number)
    backs = [row[number] for row in web.ups[rank - 1]]
    return [
        ((rank - 1, at), out, back)
        for at, (out, back) in enumerate(zip(outs, backs))
        if out > 0 or back > 0
    ]


def ties_above(web, rank, number):
    """The ties of a place with the next rank, each as (place, strands to it, strands from it)."""
    if rank == web.top:
        return []
    return [
        ((rank + 1, at), out, back)
        for at, (out, back) in enumerate(zip(web.ups[rank][number], web.downs[rank][number]))
        if out > 0 or back > 0
    ]


def ties_from(web, place):
    """The ties of a place, each as (place, strands to it, strands from it)."""
    return ties_beneath(web, place[0], place[1]) + ties_above(web, place[0], place[1])


def places_of(web):
    """All places, ascending."""
    return [(rank, at) for rank in range(web.top + 1) for at in range(web.sizes[rank])]


def one_sided(web):
    """The first tie with strands of one sort alone, as (n, x, y), or None."""
    for rank, number in places_of(web):
        for other, up, down in ties_above(web, rank, number):
            if up == 0 or down == 0:
                return (rank, number, other[1])
    return None


def lowest(part, whole):
    """The fraction of two positive integers in lowest terms."""
    shared = gcd(part, whole)
    return (part // shared, whole // shared)


def piece_from(web, start):
    """The piece of the place: a weight for each of its places, and the place it was reached from.

    Each tie must have strands of both sorts. The weights are fractions (part, whole), and 1 at the
    start; they fit all ties along which the places were reached.
    """
    rates = {start: (1, 1)}
    parents = {start: None}
    queue = [start]
    at = 0
    # The queue grows while it is gone through, so it is gone through by numbers.
    while at < len(queue):
        place = queue[at]
        part, whole = rates[place]
        for other, out, back in ties_from(web, place):
            if other not in rates:
                rates[other] = lowest(part * back, whole * out)
                parents[other] = place
                queue.append(other)
        at += 1
    return rates, parents


def broken_tie(web, rates):
    """A tie of two places of the piece that their weights do not fit, or None."""
    for place in rates:
        part, whole = rates[place]
        for other, out, back in ties_from(web, place):
            if lowest(part * back, whole * out) != rates[other]:
                return (place, other)
    return None


def path_to_root(parents, place):
    """The places from this one to the start of its piece."""
    path = []
    at = place
    while at is not None:
        path.append(at)
        at = parents[at]
    return path


def ring_through(parents, one, other):
    """The ring of the tie of two places and of the ties along which they were reached."""
    path = path_to_root(parents, one)
    back = path_to_root(parents, other)
    # Places are reached by fewest ties, so neither of the two was reached through the other one,
    # and the paths part before one of them ends.
    while path[-2] == back[-2]:
        path.pop()
        back.pop()
    return tuple(path + back[:-1][::-1])


def pieces_of(web):
    """All pieces, each as piece_from tells it."""
    found = []
    seen = {}
    for start in places_of(web):
        if start not in seen:
            piece = piece_from(web, start)
            for place in piece[0]:
                seen[place] = True
            found.append(piece)
    return found


def ring_apart(web):
    """None if the web is balanced, else the one-sided tie or the ring that tells why not."""
    tie = one_sided(web)
    if tie is not None:
        return tie
    for rates, parents in pieces_of(web):
        tie = broken_tie(web, rates)
        if tie is not None:
            return ring_through(parents, tie[0], tie[1])
    return None


def least_of(rates):
    """The least integers that are in the proportion of these fractions, by place."""
    # One of the fractions is 1 and all are in lowest terms, so no integer divides all results.
    wholes = 1
    for place in rates:
        wholes = lcm(wholes, rates[place][1])
    return {place: rates[place][0] * wholes // rates[place][1] for place in rates}


def least_weights(web):
    """The least weights, a row for each rank, or None if the web is not balanced."""
    if one_sided(web) is not None:
        return None
    found = {}
    for piece in pieces_of(web):
        if broken_tie(web, piece[0]) is not None:
            return None
        least = least_of(piece[0])
        for place in least:
            found[place] = least[place]
    return tuple([
        tuple([found[(rank, at)] for at in range(size)])
        for rank, size in enumerate(web.sizes)
    ])


def weights(web):
    """The least weights, a row for each rank, or None if the web is not balanced."""
    return least_weights(web)


def is_balanced(web):
    """True if the web has weights."""
    return ring_apart(web) is None
