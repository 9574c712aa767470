"""Down strands: all ways to go on where the up strands to a next rank are told."""

from math import gcd

from upsanddowns.amounts import check_number
from upsanddowns.checks import check_place_at
from upsanddowns.errors import BadTable, NoneSuch, TooMany
from upsanddowns.forms import frozen, is_count_table, is_row
from upsanddowns.needs import need, with_rank
from upsanddowns.tables import columns_of, dot


def check_ups(kept, ups):
    """The table as a tuple, if each next place has an up strand to it and each place of the top a row."""
    size = kept.sizes[kept.top]
    if size == 0 or not is_row(ups) or len(ups) == 0 or not is_row(ups[0]):
        raise BadTable(kept.top, "ups")
    if not is_count_table(ups, size, len(ups[0])) or not all([any(one) for one in columns_of(ups, len(ups[0]))]):
        raise BadTable(kept.top, "ups")
    return frozen(ups)


def divisors_behind(row):
    """For each entry the greatest common divisor of those behind it, 0 where they are all 0."""
    found = [0]
    for entry in reversed(list(row)):
        found = [gcd(entry, found[0])] + found
    return found[1:]


def is_left(rest, divisor):
    """True if the rest may be a sum of multiples of integers with this common divisor."""
    if divisor == 0:
        return rest == 0
    return rest >= 0 and rest % divisor == 0


def entries_for(column, divisors, rests):
    """The entries that the next place may have in the row, ascending."""
    # A rest to which no later place adds anything tells the entry alone.
    told = [rest // many for many, divisor, rest in zip(column, divisors, rests) if many > 0 and divisor == 0]
    least = min([rest // many for many, rest in zip(column, rests) if many > 0])
    if len(told) > 0:
        return [told[0]] if told[0] <= least else []
    return list(range(least + 1))


def rests_behind(column, rests, entry):
    """What the sums still lack behind this entry of the next place."""
    return tuple([rest - many * entry for many, rest in zip(column, rests)])


def rows_behind(columns, divisors, state):
    """The states behind one entry more, the least entry last."""
    row, rests = state
    column = columns[len(row)]
    behind = [one[len(row)] for one in divisors]
    found = [
        (row + (entry,), rests_behind(column, rests, entry))
        for entry in entries_for(column, behind, rests)
    ]
    return [
        later
        for later in found[::-1]
        if all([is_left(rest, divisor) for rest, divisor in zip(later[1], behind)])
    ]


def rows_to(ups, target, limit):
    """The rows b with the sums that the target tells, ascending; no more than limit and one."""
    columns = columns_of(ups, len(ups[0]))
    divisors = [divisors_behind(row) for row in ups]
    found = []
    stack = [((), tuple(target))] if min(target) >= 0 else []
    while len(stack) > 0 and len(found) <= limit:
        state = stack.pop()
        if len(state[0]) < len(columns):
            stack.extend(rows_behind(columns, divisors, state))
        elif not any(state[1]):
            found.append(state[0])
    return found


def rows_listed(kept, ups, place, limit):
    """The rows of down strands to the place, ascending; TooMany(limit) if there are more."""
    found = rows_to(ups, [row[place] for row in need(kept)], limit)
    if len(found) > limit:
        raise TooMany(limit)
    return found


def downs_of(kept, ups, place, *, limit=300):
    """All rows of down strands from the next places to this place of the top, ascending."""
    table = check_ups(kept, ups)
    check_place_at(kept.sizes, kept.top, place)
    check_number("limit", limit, 0)
    for row in rows_listed(kept, table, place, limit):
        yield row


def downs_many(kept, ups):
    """For each place of the top the number of its rows of down strands."""
    table = check_ups(kept, ups)
    return tuple([len(rows_listed(kept, table, place, 300)) for place in range(len(table))])


def fits_place(table, told, place, row):
    """True if the row of down strands to the place has the sums that the need told asks for."""
    return all([dot(ups, row) == line[place] for ups, line in zip(table, told)])


def grown_with(kept, ups, rows):
    """The kept web whose next rank has these up strands, and these rows as its down strands."""
    table = check_ups(kept, ups)
    if not is_count_table(rows, len(table), len(table[0])):
        raise BadTable(kept.top, "downs")
    told = need(kept)
    for place, row in enumerate(rows):
        if not fits_place(table, told, place, row):
            raise NoneSuch(place)
    return with_rank(kept, table, rows, len(table[0]))
