"""Goings on told apart, what they agree in, and how great their next ranks may be."""

from upsanddowns.amounts import check_number
from upsanddowns.checks import check_any_rank, check_even, check_seen
from upsanddowns.errors import BadWord, NoneSuch, TooMany
from upsanddowns.forms import is_row
from upsanddowns.needs import need
from upsanddowns.normal import told_counts
from upsanddowns.sizes import roots_of, size_steps
from upsanddowns.strands import single_ways
from upsanddowns.words import check_word, rise
from upsanddowns.writings import column_room, grown_by, writings_listed, writings_to


def two_futures(kept):
    """The goings on by the first and the second writing, None if there are fewer than two."""
    found = writings_listed(kept, 300)
    if len(found) < 2:
        return None
    return grown_by(kept, found[0]), grown_by(kept, found[1])


def same_rank(web, other, rank):
    """True if the rank has one size in both webs, and one pair of tables beneath it."""
    if web.sizes[rank] != other.sizes[rank]:
        return False
    if rank == 0:
        return True
    return web.ups[rank - 1] == other.ups[rank - 1] and web.downs[rank - 1] == other.downs[rank - 1]


def first_parting(one, other):
    """The least rank at which two kept webs differ, up to the lesser top, or None."""
    for rank in range(min(one.top, other.top) + 1):
        if not same_rank(one.web, other.web, rank):
            return rank
    return None


def check_word_row(words):
    """The words as a tuple, if they are a list or tuple of words."""
    if not is_row(words):
        raise BadWord(-1)
    return tuple([check_word(word) for word in words])


def same_told(one, other, rank, word):
    """True if the word has equal told counts in both webs between all places up to the rank."""
    starts = [at for at in range(rank + 1) if 0 <= at + rise(word) <= rank]
    return all([
        told_counts(one, (at, place), word) == told_counts(other, (at, place), word)
        for at in starts
        for place in range(one.sizes[at])
    ])


def agree_on(one, other, rank, words):
    """True if both webs have equal sizes up to the rank, and equal told counts by these words."""
    check_any_rank(rank)
    told = check_word_row(words)
    check_seen(one.sizes[:min(one.top, other.top) + 1], rank)
    if one.sizes[:rank + 1] != other.sizes[:rank + 1]:
        return False
    return all([same_told(one, other, rank, word) for word in told])


def floor_of_size(numbers, strands, start, steps):
    """The least number of places that a fresh place leads up to by so many steps."""
    ways = single_ways(numbers, strands, start, steps)
    gains = numbers.gains(start, steps)
    if gains > 0:
        return (ways * ways + gains - 1) // gains
    if ways != 0:
        raise NoneSuch(start + steps)
    return 0


def size_ends(kept):
    """What the columns of a writing cannot be fewer than, and what they cannot be more than."""
    check_even(kept.web)
    roots = roots_of(kept.numbers, kept.top)
    return sum([step for root, step in zip(roots, size_steps(kept.web)) if root != 0]), column_room(kept)


def pairs_behind(kepts, limit):
    """Each kept web with each writing of its need, or more than limit of these if there are more."""
    found = []
    for kept in kepts:
        if len(found) <= limit:
            found.extend([(kept, writing) for writing in writings_to(need(kept), limit - len(found))])
    return found


def futures_many(kept, ranks, *, limit=300):
    """The number of even goings on by so many ranks without fresh places."""
    check_number("ranks", ranks, 0)
    check_number("limit", limit, 0)
    check_even(kept.web)
    kepts = [kept]
    many = 1
    for at in range(ranks):
        found = pairs_behind(kepts, limit)
        many = len(found)
        if many > limit:
            raise TooMany(limit)
        if at + 1 < ranks:
            kepts = [grown_by(one, writing) for one, writing in found]
    return many
