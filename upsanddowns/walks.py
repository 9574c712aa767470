"""Walks by words: how many there are, which ones, and readings carried one rank up or down."""

from upsanddowns.amounts import check_number, is_int
from upsanddowns.checks import check_place, check_rank, check_reading, check_seen
from upsanddowns.errors import BadWalk, TooMany
from upsanddowns.forms import is_row, is_row_of
from upsanddowns.tables import columns_of, dot
from upsanddowns.words import check_word, climb, dips, heights


def moved_up(web, rank, row):
    """The row carried to the next rank along the up strands."""
    columns = columns_of(web.ups[rank], web.sizes[rank + 1])
    return tuple([dot(column, row) for column in columns])


def moved_down(web, rank, row):
    """The row carried to the rank beneath along the down strands."""
    return tuple([dot(line, row) for line in web.downs[rank - 1]])


def moved(web, row, word, rank):
    """The row carried from the rank along the letters of a word that stays in the ranks."""
    for height, letter in zip(heights(word, rank), word):
        row = moved_up(web, height, row) if letter == "u" else moved_down(web, height, row)
    return row


def unit_row(size, place):
    """The row with 1 at the place and 0 elsewhere."""
    return tuple([1 if at == place else 0 for at in range(size)])


def counts(web, place, word):
    """The number of walks by the word to each place of the last rank."""
    rank, number = check_place(web.sizes, place)
    check_word(word)
    last = heights(word, rank)[-1]
    if last < 0:
        return ()
    if dips(word, rank) and last <= web.top:
        return (0,) * web.sizes[last]
    check_seen(web.sizes, climb(word, rank))
    return moved(web, unit_row(web.sizes[rank], number), word, rank)


def count(web, place, word, other):
    """The number of walks by the word from the place to the other one."""
    rank, number = check_place(web.sizes, place)
    check_word(word)
    last, end = check_place(web.sizes, other)
    if heights(word, rank)[-1] != last or dips(word, rank):
        return 0
    check_seen(web.sizes, climb(word, rank))
    return moved(web, unit_row(web.sizes[rank], number), word, rank)[end]


def strands_from(web, rank, place, letter):
    """The strands by which a letter leads from the place to each place of the rank reached."""
    if letter == "u":
        return web.up_row(rank, place)
    return web.down_row(rank, place)


def steps_left(web, word, rank):
    """For each letter and each place ahead of it the strands to the places that it leads to.

    Strands to places from which the rest of the word cannot be walked are left out. The second
    result is the number of walks by the whole word from each place of the rank.
    """
    tail = (1,) * web.sizes[heights(word, rank)[-1]]
    left = []
    for height, letter in reversed(list(zip(heights(word, rank), word))):
        rows = [strands_from(web, height, at, letter) for at in range(web.sizes[height])]
        left.append([
            tuple([many if rest > 0 else 0 for many, rest in zip(row, tail)])
            for row in rows
        ])
        tail = tuple([dot(row, tail) for row in rows])
    return left[::-1], tail


def first_step(letter, row, place):
    """The least step to the place or behind it, None if there is none."""
    for at in range(place, len(row)):
        if row[at] > 0:
            return (letter, 0, at)
    return None


def later_step(step, row):
    """The least step that is greater than this one, None if there is none."""
    letter, strand, place = step
    if strand + 1 < row[place]:
        return (letter, strand + 1, place)
    return first_step(letter, row, place + 1)


def completed(word, left, place, steps):
    """The least walk from the place that begins with these steps."""
    walk = list(steps)
    for at in range(len(steps), len(word)):
        reached = walk[at - 1][2] if at > 0 else place
        walk.append(first_step(word[at], left[at][reached], 0))
    return tuple(walk)


def later_walk(word, left, place, walk):
    """The least walk that is greater than this one, None if there is none."""
    for at in reversed(range(len(walk))):
        reached = walk[at - 1][2] if at > 0 else place
        step = later_step(walk[at], left[at][reached])
        if step is not None:
            return completed(word, left, place, walk[:at] + (step,))
    return None


def walks_of(web, place, word, *, limit=500):
    """All walks by the word from the place, in ascending order."""
    rank, number = check_place(web.sizes, place)
    check_word(word)
    check_number("limit", limit, 0)
    if dips(word, rank):
        return
    check_seen(web.sizes, climb(word, rank))
    left, many = steps_left(web, word, rank)
    if many[number] > limit:
        raise TooMany(limit)
    walk = completed(word, left, number, ()) if many[number] > 0 else None
    while walk is not None:
        yield walk
        walk = later_walk(word, left, number, walk)


def is_step(step, letter, row):
    """True for a step by the letter to one of the places, along one of the strands to it."""
    if not is_row_of(step, 3) or step[0] != letter:
        return False
    if not is_int(step[2]) or not 0 <= step[2] < len(row):
        return False
    return is_int(step[1]) and 0 <= step[1] < row[step[2]]


def walk_back(web, place, word, walk):
    """The walk read from its end, which is a walk of the exchanged web."""
    rank, reached = check_place(web.sizes, place)
    check_word(word)
    check_seen(web.sizes, climb(word, rank))
    if not is_row(walk):
        raise BadWalk(-1)
    back = []
    for at, letter in enumerate(word):
        row = strands_from(web, heights(word, rank)[at], reached, letter)
        if at >= len(walk) or not is_step(walk[at], letter, row):
            raise BadWalk(at)
        back.append(("d" if letter == "u" else "u", walk[at][1], reached))
        reached = walk[at][2]
    if len(walk) > len(word):
        raise BadWalk(len(word))
    return tuple(back[::-1])


def raised(web, rank, reading):
    """The reading carried to the next rank along the up strands."""
    check_rank(web.sizes, rank)
    row = check_reading(web.sizes, rank, reading)
    check_seen(web.sizes, rank + 1)
    return moved_up(web, rank, row)


def lowered(web, rank, reading):
    """The reading carried to the rank beneath along the down strands, () from rank 0."""
    check_rank(web.sizes, rank)
    row = check_reading(web.sizes, rank, reading)
    if rank == 0:
        return ()
    return moved_down(web, rank, row)
