"""Writings: all ways to lay an even next rank without fresh places."""

from math import isqrt

from upsanddowns.amounts import check_number
from upsanddowns.checks import check_even
from upsanddowns.errors import BadTable, NoneSuch, TooMany
from upsanddowns.forms import is_count_row, is_row
from upsanddowns.needs import need, with_rank
from upsanddowns.tables import columns_of, dots, entries_of

# Writings are looked for place by place. A group is (entries, many): so many columns that have these
# entries at the places ahead. A state is (place, done, todo, rests, room, most): done are the groups
# whose entries at the place are told, todo the others, in the end the columns with 0 alone ahead;
# rests are what the products of the place with each place ahead still lack, room what its own product
# lacks, and most the greatest entry that the first group of todo may get next.


def state_at(table, place, groups):
    """The state in which nothing is told of the place, and these groups of the places ahead."""
    room = table[place][place]
    todo = groups + (((0,) * place, room),)
    return (place, (), todo, tuple(table[place][:place]), room, room)


def greatest_entry(state):
    """The greatest entry that the columns of the first group of todo may get."""
    _, _, todo, rests, room, most = state
    entries, many = todo[0]
    least = min(most, isqrt(room)) if many > 0 else 0
    for entry, rest in zip(entries, rests):
        if entry > 0:
            least = min(least, rest // entry)
    return least


def state_with(state, entry, many):
    """The state in which so many columns of the first group have got the entry, and the others less."""
    place, done, todo, rests, room, _ = state
    entries, all_of_them = todo[0]
    told = entries + (entry,)
    if many > 0 and any(told):
        done = done + ((told, many),)
    rests = tuple([rest - many * entry * one for rest, one in zip(rests, entries)])
    room = room - many * entry * entry
    if entry == 0:
        return (place, done, todo[1:], rests, room, room)
    return (place, done, ((entries, all_of_them - many),) + todo[1:], rests, room, entry - 1)


def has_hope(state):
    """False if it is plain that no writing comes of the state."""
    _, _, todo, rests, room, most = state
    if len(todo) == 0:
        return room == 0 and not any(rests)
    if len(todo) == 1 and room > todo[0][1] * most * most:
        return False
    # The square of a product of two places is at most the product of their squares.
    for at, rest in enumerate(rests):
        if rest * rest > room * sum([many * entries[at] * entries[at] for entries, many in todo]):
            return False
    return True


def states_behind(state):
    """The states behind the next entry of the first group of todo, for each number of its columns."""
    _, _, todo, rests, room, _ = state
    entries, many = todo[0]
    entry = greatest_entry(state)
    if entry == 0:
        found = [state_with(state, 0, many)]
    elif len(todo) == 1 and entry == 1:
        found = [state_with(state, 1, room)]
    else:
        most = min(many, room // (entry * entry))
        for one, rest in zip(entries, rests):
            if one > 0:
                most = min(most, rest // (one * entry))
        found = [state_with(state, entry, times) for times in range(most + 1)]
    return [later for later in found if has_hope(later)]


def order_of(table):
    """The places, those with the least entries on the diagonal first."""
    # They leave the fewest choices, and so the later places meet columns of which much is told.
    return [place for _, place in sorted([(row[at], at) for at, row in enumerate(table)])]


def columns_in(groups, order):
    """The columns of the groups, descending; the groups are told in this order of the places."""
    spots = [order.index(place) for place in range(len(order))]
    columns = [tuple([entries[spot] for spot in spots]) for entries, many in groups for _ in range(many)]
    return tuple(sorted(columns, reverse=True))


def writings_to(table, limit):
    """The writings of a table, or more than limit of them if there are more."""
    if len(table) == 0:
        return [()]
    if any([entry < 0 for entry in entries_of(table)]):
        return []
    order = order_of(table)
    arranged = [[table[one][two] for two in order] for one in order]
    found = []
    stack = [state_at(arranged, 0, ())]
    while len(stack) > 0 and len(found) <= limit:
        state = stack.pop()
        if len(state[2]) > 0:
            stack.extend(states_behind(state))
        elif state[0] + 1 < len(table):
            stack.append(state_at(arranged, state[0] + 1, state[1]))
        else:
            found.append(columns_in(state[1], order))
    return found


def writings_listed(kept, limit):
    """All writings of the need, ascending; TooMany(limit) if there are more."""
    check_even(kept.web)
    found = writings_to(need(kept), limit)
    if len(found) > limit:
        raise TooMany(limit)
    return sorted(found)


def writings(kept, *, limit=300):
    """All writings of the need, ascending."""
    check_number("limit", limit, 0)
    for writing in writings_listed(kept, limit):
        yield writing


def writing_many(kept, *, limit=300):
    """The number of writings of the need."""
    check_number("limit", limit, 0)
    return len(writings_listed(kept, limit))


def grown_by(kept, writing):
    """The kept web whose next rank has these columns, up and down alike."""
    size = kept.sizes[kept.top]
    if not is_row(writing) or not all([is_count_row(column, size) for column in writing]):
        raise BadTable(kept.top, "ups")
    rows = columns_of(writing, size)
    if dots(rows, rows) != need(kept):
        raise NoneSuch(kept.top)
    return with_rank(kept, rows, rows, len(writing))


def fewest_columns(kept):
    """The least number of columns of a writing, None if there is no writing."""
    return min([len(writing) for writing in writings_listed(kept, 300)], default=None)


def most_columns(kept):
    """The greatest number of columns of a writing, None if there is no writing."""
    return max([len(writing) for writing in writings_listed(kept, 300)], default=None)


def column_room(kept):
    """The sum of the diagonal of the need."""
    return sum([row[at] for at, row in enumerate(need(kept))])
