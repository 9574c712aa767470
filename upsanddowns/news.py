"""News: what a deed at a desk is answered with."""

from upsanddowns.needs import may_end, need
from upsanddowns.tables import entries_of
from upsanddowns.writings import column_room, writings_to

GROWING = ("tell", "reflect", "lay", "end")


def rank_news(before, kept):
    """The news of one rank more."""
    top = kept.top
    q, r = kept.numbers[top - 1]
    found = [f"rank {top} size {kept.sizes[top]}", f"keeps {q} {r}"]
    if before.web.is_even and not kept.web.is_even:
        found.append("unlike")
    return found


def ahead_news(kept):
    """The news of the sizes ahead."""
    if not kept.numbers.lively_to(kept.top + 1):
        return []
    return [f"sizes ahead at least {kept.sizes[kept.top]}"]


def top_lots(parting):
    """The number of lots of the highest rank."""
    return len(parting.rows[-1])


def lot_news(before, parting):
    """The news of the lots of the top rank."""
    if top_lots(before) == top_lots(parting):
        return []
    return [f"lots {top_lots(parting)}"]


def are_writings_told(kept):
    """True if the number of writings is news."""
    if not kept.web.is_even or kept.sizes[kept.top] > 6:
        return False
    return min(entries_of(need(kept)), default=0) >= 0 and column_room(kept) <= 16


def going_news(kept):
    """The news of how the web may go on."""
    found = []
    if are_writings_told(kept):
        many = len(writings_to(need(kept), 9))
        found.append("writings 9+" if many > 9 else f"writings {many}")
    if may_end(kept):
        found.append("ends")
    return found


def news_behind(name, before, kept, old_parting, parting):
    """The news of the deed with this name, ahead of which there were before and old_parting."""
    grows = name in GROWING
    tells = grows or name == "renumber"
    found = rank_news(before, kept) if grows else []
    if tells:
        found = found + ahead_news(kept)
    found = found + lot_news(old_parting, parting)
    if tells:
        found = found + going_news(kept)
    return tuple(found)
