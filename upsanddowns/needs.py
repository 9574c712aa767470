"""The need of a next rank, and the going on that copies the two ranks at the top."""

from upsanddowns.checks import check_r_not_below, check_rank_from
from upsanddowns.judging import keeps
from upsanddowns.kept import Kept
from upsanddowns.tables import columns_of, is_nought, shifted, unit_table
from upsanddowns.webs import Web


def need(kept):
    """The table that the walks up and down from the top through a next rank have to make."""
    q, r = kept.numbers[kept.top]
    return shifted(kept.below(kept.top), q, r)


def may_end(kept):
    """True if a next rank without places is a going on."""
    return is_nought(need(kept))


def with_rank(kept, ups, downs, size):
    """The kept web with one rank more of this size, tied by these tables."""
    web = kept.web
    return Kept(
        Web(list(web.ups) + [ups], downs=list(web.downs) + [downs], sizes=list(web.sizes) + [size]),
        kept.numbers,
    )


def strands_beneath(kept, tables):
    """For each place of the top its strands of one sort with the places of the rank beneath."""
    size = kept.sizes[kept.top]
    if kept.top == 0:
        return [()] * size
    return columns_of(tables[kept.top - 1], size)


def copied(kept, strands):
    """The strands of one sort to the copies: those beneath for each label, and one for each colour."""
    q, r = kept.numbers[kept.top]
    units = unit_table(len(strands))
    # Rows times a number, since q may be great where there is no place to copy.
    return [list(row) * q + list(line) * r for row, line in zip(strands, units)]


def with_copies(kept):
    """The kept web with one rank more that copies the two ranks at the top."""
    q, r = kept.numbers[kept.top]
    under = kept.sizes[kept.top - 1] if kept.top > 0 else 0
    return with_rank(
        kept,
        copied(kept, strands_beneath(kept, kept.web.downs)),
        copied(kept, strands_beneath(kept, kept.web.ups)),
        q * under + r * kept.sizes[kept.top],
    )


def reflected(kept):
    """The reflected web with the same numbers."""
    check_r_not_below(kept.numbers, kept.top, kept.top + 1)
    return with_copies(kept)


def reflected_to(kept, top):
    """The kept web reflected again and again up to this top."""
    check_rank_from(top, kept.top)
    check_r_not_below(kept.numbers, kept.top, top)
    found = kept
    for _ in range(kept.top, top):
        found = with_copies(found)
    return found


def next_fits(kept, ups, downs=None):
    """True if the next rank with these tables is a going on; without downs they are equal to ups."""
    web = kept.web.grown(ups, downs)
    q, r = kept.numbers[kept.top]
    return keeps(web, kept.top, q, r)
