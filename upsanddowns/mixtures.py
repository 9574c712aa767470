"""Mixtures: growth in the product of two webs, told by growth in each of them."""

from math import comb

from upsanddowns.amounts import check_number, product_of
from upsanddowns.checks import check_seen, check_up_to
from upsanddowns.errors import BadNumber, NotKept
from upsanddowns.growth import Growth
from upsanddowns.joins import place_of, product
from upsanddowns.kept import Kept
from upsanddowns.numbers import Numbers
from upsanddowns.own import product_pair
from upsanddowns.shares import Share


def mixed_numbers(one, other, steps):
    """The numbers of the product of two growths' webs, if it is told so many steps behind the origins."""
    top = min(one.kept.top, other.kept.top)
    check_seen(one.kept.sizes[:top + 1], one.origin_rank + other.origin_rank + steps)
    pairs = []
    for rank in range(top):
        r = product_pair(one.kept, other.kept, rank)
        if r is None:
            raise NotKept(rank, -1, -1)
        pairs.append((1, r))
    return Numbers(pairs)


def split_shares(one, other, steps):
    """The chances that so many steps of growth in the product have 0 to all of them in the first web."""
    check_number("steps", steps, 0)
    numbers = mixed_numbers(one, other, steps)
    whole = numbers.gains(one.origin_rank + other.origin_rank, steps)
    return tuple([
        Share(
            comb(steps, first) * comb(steps, first)
            * one.kept.numbers.gains(one.origin_rank, first)
            * other.kept.numbers.gains(other.origin_rank, steps - first),
            whole,
        )
        for first in range(steps + 1)
    ])


def product_growth(one, other):
    """The growth in the product from the pair of the origins."""
    numbers = mixed_numbers(one, other, 0)
    kept = Kept(product(one.kept.web, other.kept.web), numbers)
    return Growth(kept, place_of(one.kept.web, other.kept.web, one.place, other.place))


def coin(r, s, steps, first):
    """The chance of so many first sides in so many throws of a coin whose sides have the weights r and s."""
    check_number("r", r, 0)
    check_number("s", s, 0)
    if r == 0 and s == 0:
        raise BadNumber("s")
    check_number("steps", steps, 0)
    check_up_to("first", first, steps)
    part = comb(steps, first) * product_of([r] * first) * product_of([s] * (steps - first))
    return Share(part, product_of([r + s] * steps))
