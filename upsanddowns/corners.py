"""Corners: where a walk up and down comes by when a part of its pairs is treated."""

from upsanddowns.amounts import check_number, product_of
from upsanddowns.checks import check_any_rank, check_place, check_seen, check_up_to
from upsanddowns.errors import BadWalk, NotFresh
from upsanddowns.normal import normal_row
from upsanddowns.treating import places_passed, told_walk


def check_fresh(web, place):
    """Raises NotFresh unless no strand lies between the place and the rank beneath."""
    if not web.is_fresh(place[0], place[1]):
        raise NotFresh(place[0], place[1])


def turning_walk(kept, place, walk, steps):
    """The walk as a tuple, if it is one by so many u and as many d from a fresh place back to it."""
    start = check_place(kept.sizes, place)
    check_number("steps", steps, 0)
    check_seen(kept.sizes, start[0] + steps)
    told = told_walk(kept.web, start, "u" * steps + "d" * steps, walk)
    if steps > 0 and told[2 * steps - 1][2] != start[1]:
        raise BadWalk(2 * steps - 1)
    check_fresh(kept.web, start)
    return told


def crossed(rule, corners, up, down):
    """The corner across a cell, the strand that leads down to it, and the strand up from it.

    The corners told are those behind fewer letters, behind the u, and behind both letters; up and
    down are the numbers of the strands, None where a letter was taken out.
    """
    first, middle, last = corners
    if down is None:
        return first, None, up
    if up is None:
        return last, down, None
    token = rule.token_of(first[0], first[1], last[1], (middle[1], up, down))
    if len(token) == 1:
        return first, None, None
    return (first[0] - 1, token[1]), token[2], token[3]


def next_line(rule, places, ups, end, down):
    """The corners behind one d more, and the strands up between them, None where there is none.

    Places and ups are the corners and strands ahead of the d; end is the last corner behind the d,
    and down the strand of the d from the last corner.
    """
    line = [end]
    strands = []
    for at in reversed(range(len(ups))):
        corner, down, up = crossed(rule, (places[at], places[at + 1], line[0]), ups[at], down)
        line = [corner] + line
        strands = [up] + strands
    return line, strands


def grid(rule, place, walk, steps):
    """The places at all corners of the walk by so many u and as many d from a fresh place back to it."""
    told = turning_walk(rule.kept, place, walk, steps)
    passed = places_passed(place, told)
    line = passed[:steps + 1]
    ups = [step[1] for step in told[:steps]]
    lines = [line]
    for at in range(steps):
        line, ups = next_line(rule, line, ups, passed[steps + at + 1], told[steps + at][1])
        lines.append(line)
    return tuple([tuple([row[at] for row in lines]) for at in range(steps + 1)])


def corner_ranks(filling):
    """The ranks of all corners of the filling."""
    ups = filling.word.count("u")
    downs = filling.word.count("d")
    return tuple([tuple([filling.rank_at(s, t) for t in range(downs + 1)]) for s in range(ups + 1)])


def gains_between(numbers, start, low, high):
    """The product of the gains from the start by more than low and at most high steps."""
    return product_of([numbers.gain(start, steps) for steps in range(low + 1, high + 1)])


def corner_many(numbers, start, steps, ups, downs, high):
    """How many times as many walks have a place so high at the corner as ways lead there and back."""
    check_any_rank(start)
    check_number("steps", steps, 0)
    check_up_to("ups", ups, steps)
    check_up_to("downs", downs, steps)
    check_number("high", high, 0)
    across = high - ups + downs
    # So high is neither above ups nor above the steps less the downs.
    if not 0 <= across <= min(steps - ups, downs):
        return 0
    row = normal_row(numbers, "u" * (steps - ups) + "d" * downs, start + ups)
    return (
        row[across] * gains_between(numbers, start, high, ups)
        * gains_between(numbers, start, high, steps - downs)
    )
