"""Partings with one lot a rank, and partings of reflected webs and of products."""

from upsanddowns.checks import check_r_not_below
from upsanddowns.joining import offsets_of
from upsanddowns.partings import Parting, downs_into, fits, is_fair, ups_into


def flat_rows(web):
    """How many strands each place of a rank has to the next one, and back, or None."""
    flat = Parting.flat(web.sizes)
    if 0 in web.sizes or not is_fair(web, flat):
        return None
    ups = tuple([ups_into(web, flat, rank)[0][0] for rank in range(web.top)])
    downs = tuple([downs_into(web, flat, rank + 1)[0][0] for rank in range(web.top)])
    return ups, downs


def copied_lots(lots, size, many, start):
    """The lots of so many copies of a rank of this size, whose places are numbered from the start on."""
    if size == 0:
        return []
    return [[start + number * size + place for place in lot] for number in range(many) for lot in lots]


def reflected_parting(kept, parting):
    """The parting of the reflected web with the old lots and the copies of those at the top."""
    fits(kept.web, parting)
    top = kept.top
    check_r_not_below(kept.numbers, top, top + 1)
    q, r = kept.numbers[top]
    beneath = copied_lots(parting.rows[top - 1], kept.sizes[top - 1], q, 0) if top > 0 else []
    start = q * kept.sizes[top - 1] if top > 0 else 0
    return Parting(list(parting.rows) + [beneath + copied_lots(parting.rows[top], kept.sizes[top], r, start)])


def product_lots(one, other, parting, second, rank):
    """The lots of pairs of places at this rank of the product."""
    offsets = offsets_of(one.sizes, other.sizes, rank)
    return [
        [offsets[at] + place * other.sizes[rank - at] + end for place in lot for end in last]
        for at in range(rank + 1)
        for lot in parting.rows[at]
        for last in second.rows[rank - at]
    ]


def product_parting(one, other, parting, second):
    """The parting of the product with a lot for each lot of the one web and lot of the other."""
    fits(one, parting)
    fits(other, second)
    top = min(one.top, other.top)
    return Parting([product_lots(one, other, parting, second, rank) for rank in range(top + 1)])
