"""Folds: webs whose places are the lots of a fair parting."""

from upsanddowns.checks import check_balance, check_rank, check_reading, check_weights
from upsanddowns.errors import NotFair
from upsanddowns.judging import keeps
from upsanddowns.kept import Kept
from upsanddowns.partings import downs_into, fits, unfair_pair, ups_into
from upsanddowns.webs import Web
from upsanddowns.weights import least_weights


def lot_table(rows, lots):
    """The rows of the first places of the lots."""
    return [rows[lot[0]] for lot in lots]


def folded(web, parting):
    """The web whose places are the lots of the parting."""
    fault = unfair_pair(web, parting)
    if fault is not None:
        raise NotFair(fault[0], fault[1], fault[2])
    ups = [lot_table(ups_into(web, parting, rank), parting.rows[rank]) for rank in range(web.top)]
    falls = [lot_table(downs_into(web, parting, rank + 1), parting.rows[rank + 1]) for rank in range(web.top)]
    sizes = parting.lot_sizes()
    downs = [[[row[lot] for row in falls[rank]] for lot in range(sizes[rank])] for rank in range(web.top)]
    return Web(ups, downs=downs, sizes=sizes)


def folded_kept(kept, parting):
    """The kept web whose places are the lots of the parting, with the same numbers."""
    return Kept(folded(kept.web, parting), kept.numbers)


def lot_sums(parting, rank, reading):
    """The sums of the reading over the lots of the rank."""
    check_rank(parting.sizes, rank)
    row = check_reading(parting.sizes, rank, reading)
    return tuple([sum([row[place] for place in lot]) for lot in parting.rows[rank]])


def folded_weights(web, parting, weights):
    """The least weights of the folded web."""
    fits(web, parting)
    check_balance(web, check_weights(web.sizes, weights))
    # A fold of a balanced web is balanced, and its own strands tell its least weights.
    return least_weights(folded(web, parting))


def lot_keeps(web, parting, rank, q, r):
    """True if the rank of the folded web keeps (q, r)."""
    return keeps(folded(web, parting), rank, q, r)
