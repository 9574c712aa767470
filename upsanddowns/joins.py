"""Webs made of webs: side by side, products, exchanged, raised and thick ones."""

from upsanddowns.amounts import check_number, is_int
from upsanddowns.checks import check_place
from upsanddowns.errors import BadNumbers, BadRank
from upsanddowns.forms import is_row_of
from upsanddowns.joining import offsets_of, product_rows, product_sizes, scaled_tables
from upsanddowns.webs import Web


def beside(first, *rest):
    """The webs side by side."""
    web = first
    for other in rest:
        web = web + other
    return web


def product(one, other):
    """The product of two webs."""
    return one * other


def exchanged(web):
    """The web with up strands and down strands exchanged."""
    return ~web


def place_of(one, other, first, second):
    """The place of the product that is the pair of these two places."""
    at, x = check_place(one.sizes, first)
    beyond, z = check_place(other.sizes, second)
    rank = at + beyond
    if rank > min(one.top, other.top):
        raise BadRank(rank)
    return rank, offsets_of(one.sizes, other.sizes, rank)[at] + x * other.sizes[beyond] + z


def pair_of(one, other, place):
    """The pair of places that is this place of the product."""
    rank, number = check_place(product_sizes(one.sizes, other.sizes), place)
    at, x, z = product_rows(one.sizes, other.sizes, rank)[number]
    return (at, x), (rank - at, z)


def raised_by(web, many):
    """The web with so many empty ranks beneath it."""
    check_number("many", many, 0)
    return web >> many


def check_scales(rows, many):
    """The rows, if they are so many pairs of integers not below 1."""
    if not is_row_of(rows, many):
        raise BadNumbers(-1)
    for at, pair in enumerate(rows):
        if not is_row_of(pair, 2) or not all([is_int(one) and one >= 1 for one in pair]):
            raise BadNumbers(at)
    return rows


def thick(web, rows):
    """The web with all strands above rank n as many times as pair number n tells."""
    check_scales(rows, web.top)
    return Web(
        scaled_tables(web.ups, [pair[0] for pair in rows]),
        downs=scaled_tables(web.downs, [pair[1] for pair in rows]),
        sizes=web.sizes,
    )
